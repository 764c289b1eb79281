/-
  Parts of the proof: RefLeafD, RefLeafD2.
-/
import Derived.Test.YtedkjanogjglkaaGreatDoorP24
import Derived.Test.YtedkjanogjglkaaGreatDoorP01
import Derived.Deep.RegionHeld3
namespace Go.Proofs.YtedkjanogjglkaaGreatDoor.D
open Go.RowKit
open Go.Proofs.YtedkjanogjglkaaGreatDoor.Code (RTree)
theorem num_gate {s : List UInt8} {k : Nat} {bad : Bool} (hn : Code.numRun (s.drop k) ≠ []) (hk : k ≤ s.length) {w w2 : World} {b sb : Nat} (hx : w2.heap[b]? = some (.cells #[.int .u8 100, .string (bs []), .int .i64 (Ref.signed (Code.numRun (s.drop k))).1, .slice none 0 0] 135)) (hb : w.heap.size ≤ b) (hg : w.grownBy w2 (some sb)) (hr : ScanR w2 sb s (k + (Code.numRun (s.drop k)).length) (bad || !(Ref.signed (Code.numRun (s.drop k))).2)) :
  TPost (gate bad (Code.atomQ (s.drop k))) s k sb w (.returned (.pointer (some ⟨b, 0, none⟩))) w2 := by
 have hl : (Code.numRun (s.drop k)).length ≤ s.length - k := by
  have h := congrArg List.length (Code.numRun_drop (s.drop k)).1
  simp only [List.length_append, List.length_drop] at h
  omega
 refine ⟨b, _, _, rfl, by omega, by omega, hr, hg, ?_⟩
 cases bad with
 | true => exact Or.inr ⟨rfl, rfl⟩
 | false =>
  have e : gate false (Code.atomQ (s.drop k)) = _ := Code.atomQ_num hn
  by_cases hok : (Ref.signed (Code.numRun (s.drop k))).2 = true
  ·refine Or.inl ⟨by rw [hok]; rfl, .num (Ref.signed (Code.numRun (s.drop k))).1, ?_, ⟨b, rfl, ⟨hb, lt_of_block hx⟩, hx, ?_⟩⟩
   ·rw [e, if_pos hok, List.drop_drop]
   ·obtain ⟨c, h1, h2, h3, h4⟩ := D.Ref.signed_inv hok
    rw [h4]; omega
  ·refine Or.inr ⟨by simp at hok; rw [hok]; rfl, ?_⟩
   rw [e, if_neg hok]
set_option maxRecDepth 100000 in
set_option maxHeartbeats 8000000 in
theorem tree_numF (sb : Nat) (s : List UInt8) (k : Nat) (bad : Bool) (w : World) (hsc : ScanR w sb s k bad) (hk : k ≤ s.length) (hs : s.length ≤ 3000) (h40 : bad = true ∨ Code.cut [40] (s.drop k) = none) (h35 : bad = true ∨ Code.cut [35] (s.drop k) = none) (hnum : Code.numRun (s.drop k) ≠ []) :
  Calls Tryz.prog 63 #[.pointer (some ⟨sb, 0, none⟩), .bool false] w fun en w' => TPost (gate bad (Code.atomQ (s.drop k))) s k sb w en w' := by
 have e1 := bs_size s
 have hno : ∀ (p : List UInt8), p.length ≤ 3000 → (bad = true ∨ Code.cut p (s.drop k) = none) → ∀ (w1 : World), ScanR w1 sb s k bad → Calls Tryz.prog 104 #[.pointer (some ⟨sb, 0, none⟩), .string (bs p)] w1 fun e w' => w1.grownBy w' (some sb) ∧ e = .returned (.bool false) ∧ ScanR w' sb s k bad := fun p hp hc w1 hr1 => by
  refine (is_any sb s p k bad w1 hr1 hk hs hp).mono ?_
  rintro e w' ⟨hg, ⟨r, h1, h2, _⟩ | ⟨_, h2, h3⟩⟩
  ·rcases hc with h | h
   ·rw [h] at h1; cases h1
   ·rw [h2] at h; cases h
  ·exact ⟨hg, h2, h3⟩
 have HIS40 := hide (hno [40] (by simp) h40)
 have HIS35 := hide (hno [35] (by simp) h35)
 have hl16 : (Code.numRun (s.drop k)).length ≤ 16777216 := by
  have h := congrArg List.length (Code.numRun_drop (s.drop k)).1
  simp only [List.length_append, List.length_drop] at h
  omega
 have hfin : ∀ w4 : World, w.grownBy w4 (some sb) → ScanR w4 sb s (k + (Code.numRun (s.drop k)).length) (bad || !(Ref.signed (Code.numRun (s.drop k))).2) → TPost (gate bad (Code.atomQ (s.drop k))) s k sb w (.returned (.pointer (some ⟨w4.heap.size, 0, none⟩))) (w4.alloc (.cells #[.int .u8 100, .string (bs []), .int .i64 (Ref.signed (Code.numRun (s.drop k))).1, .slice none 0 0] 135)) := fun w4 hg4 hr4 =>
  num_gate hnum hk (heap_alloc_new w4 _) hg4.size (grown_trans hg4 (grown_alloc _ _ _)) (stay_alloc hr4)
 have HSG : Hid (∀ w, Calls Tryz.prog 108 #[.string (bs (Code.numRun (s.drop k)))] w fun e w' => e = .returned (.tuple #[.int .i64 (Ref.signed (Code.numRun (s.drop k))).1, .bool (Ref.signed (Code.numRun (s.drop k))).2]) ∧ w' = w) := hide fun w => signed_bs _ w hl16
 have HFIN := hide hfin
 generalize (Ref.signed (Code.numRun (s.drop k))).1 = sv at *
 generalize (Ref.signed (Code.numRun (s.drop k))).2 = ok at *
 clear hno hfin h40 h35 hl16
 go_enter Tryz.func63, Tryz.ntmps63
 go_wp2_with fail
 refine (HIS40.out w hsc).mono ?_
 rintro en w1 ⟨hg1, rfl, hr1⟩
 go_wp2_with fail
 refine (HIS35.out w1 hr1).mono ?_
 rintro en w3 ⟨hg3, rfl, hr3⟩
 have hgw3 : w.grownBy w3 (some sb) := grown_trans hg1 hg3
 have c1 := blk_cell hr3 1 _ rfl
 go_wp2_with fail
 go_loopw [37] (fun _ wr => ∃ j : Nat, k + j ≤ s.length ∧ ScanR wr sb s (k + j) bad ∧ w.grownBy wr (some sb) ∧ Hid (((s.drop k).take j).all Code.numC = true)) (fun _ wr => s.length - scanAt wr sb)
 case atStart => exact ⟨0, by omega, hr3, hgw3, by simp [Hid]⟩
 case round =>
  obtain ⟨j, hj, hr, hg, hall⟩ := hrel
  have hm := hide (scanAt_of hr)
  have c0 := blk_cell hr 0 _ rfl
  have c1' := blk_cell hr 1 _ rfl
  have z1 := blk_froz hr 1
  have HR := hide hr
  clear c1 hr3 hgw3
  have hend : Code.numRun (s.drop k) = (s.drop k).take j → j = (Code.numRun (s.drop k)).length ∧ 0 < j ∧ Hid ((bs s).extract k (k + j) = bs (Code.numRun (s.drop k))) := fun hw => by
   have hl : (Code.numRun (s.drop k)).length = j := by rw [hw, List.length_take, List.length_drop]; omega
   have hp := List.length_pos_iff.2 hnum
   exact ⟨hl.symm, by omega, hide (by rw [bs_extract, bl_bs, hw, show k + j - k = j by omega])⟩
  have HEND := hide hend
  clear hend
  by_cases hlt : k + j < s.length
  ·have hlt' : k + j < (bs s).size := by omega
   have hget : (bs s)[k + j]'hlt' = s[k + j] := bs_get s (k + j) hlt hlt'
   have hgd : (s.drop k)[j]? = some s[k + j] := by rw [List.getElem?_drop]; exact List.getElem?_eq_getElem hlt
   have hstop : Code.numC ((bs s)[k + j]'hlt') = false → Code.numRun (s.drop k) = (s.drop k).take j := fun hf =>
    (Code.takeWhile_take _ (s.drop k) j hall.out (by rw [List.length_drop]; omega) (fun c hc => by rw [hgd] at hc; rw [← Option.some.inj hc, ← hget]; exact hf)).1
   have hgo : Code.numC ((bs s)[k + j]'hlt') = true → Hid (((s.drop k).take (j + 1)).all Code.numC = true) := fun hf => by
    refine hide ?_
    rw [List.take_add_one, hgd, List.all_append, hall.out]
    show (true && (Code.numC s[k + j] && true)) = true
    rw [← hget, hf]; rfl
   have HSTOP := hide hstop
   have HGO := hide hgo
   have hd : decide (((k + j : Nat) : Int) < ((bs s).size : Int)) = true := decide_eq_true (by omega)
   have hkk : ((k + j : Nat) : Int) < ((bs s).size : Int) := by omega
   have h3 : (bs s).size ≤ 3000 := by omega
   have hkle : k ≤ k + j := by omega
   have hkl2 : k + j ≤ (bs s).size := by omega
   have HLT := hide hlt
   clear hget hgd hstop hgo hall hj hlt
   by_cases hdig : (48 : Int) ≤ (((bs s)[k + j]'hlt').toNat : Int) ∧ (((bs s)[k + j]'hlt').toNat : Int) ≤ (57 : Int)
   ·obtain ⟨h1, h2⟩ := hdig
    have HA := HGO.out (by unfold Code.numC; rw [isIn_yes (lo := 48) (hi := 57) h1 h2]; rfl)
    have hq1 : decide ((48 : Int) ≤ (((bs s)[k + j]'hlt').toNat : Int)) = true := decide_eq_true h1
    have hq2 : decide ((((bs s)[k + j]'hlt').toNat : Int) ≤ (57 : Int)) = true := decide_eq_true h2
    clear HGO HSTOP HEND e1
    generalize hS : bs s = S at *
    generalize hn : k + j = n at *
    go_wp2_with fail
    go_quiet (fail)
    go_wp2
    have hlt := HLT.out
    have hset := fun q => scan_set1 (w := wr.drewN q) HR.out (k + (j + 1)) ((n : Int) + 1) (by omega)
    exact ⟨⟨j + 1, by omega, hset _, grown_trans (quietN hg _) (grown_set _ _ _ _), HA⟩, by rw [hm.out, scanAt_of (hset _)]; omega⟩
   ·have hno := isIn_no (lo := 48) (hi := 57) (c := (bs s)[k + j]'hlt') (fun h => hdig h)
    by_cases h45 : (((bs s)[k + j]'hlt').toNat : Int) = 45
    ·have HA := HGO.out (by
      unfold Code.numC
      have : (bs s)[k + j]'hlt' = 45 := UInt8.toNat.inj (by have h : (((bs s)[k + j]'hlt').toNat : Int) = 45 := h45; show _ = 45; omega)
      rw [this]; rfl)
     have hq1 : decide ((48 : Int) ≤ (((bs s)[k + j]'hlt').toNat : Int)) = false := decide_eq_false (by omega)
     have hq3 : ((((bs s)[k + j]'hlt').toNat : Int) == 45) = true := beq_iff_eq.2 h45
     clear HGO HSTOP HEND hdig hno h45 e1
     generalize hS : bs s = S at *
     generalize hn : k + j = n at *
     go_wp2_with fail
     go_quiet (fail)
     go_wp2
     have hlt := HLT.out
     have hset := fun q => scan_set1 (w := wr.drewN q) HR.out (k + (j + 1)) ((n : Int) + 1) (by omega)
     exact ⟨⟨j + 1, by omega, hset _, grown_trans (quietN hg _) (grown_set _ _ _ _), HA⟩, by rw [hm.out, scanAt_of (hset _)]; omega⟩
    ·have hw := HSTOP.out (by
      unfold Code.numC
      rw [hno]
      show ((bs s)[k + j]'hlt' == 45) = false
      refine beq_eq_false_iff_ne.2 (fun h => h45 ?_)
      rw [h]; rfl)
     obtain ⟨hjl, hjp, HX⟩ := HEND.out hw
     rw [← hjl] at HFIN
     have hq3 : ((((bs s)[k + j]'hlt').toNat : Int) == 45) = false := beq_eq_false_iff_ne.2 h45
     have hgt : ((k : Nat) : Int) < ((k + j : Nat) : Int) := by omega
     have hcl : (decide ((48 : Int) ≤ (((bs s)[k + j]'hlt').toNat : Int)) = false) ∨ (decide ((48 : Int) ≤ (((bs s)[k + j]'hlt').toNat : Int)) = true ∧ decide ((((bs s)[k + j]'hlt').toNat : Int) ≤ (57 : Int)) = false) := by
      by_cases h1 : (48 : Int) ≤ (((bs s)[k + j]'hlt').toNat : Int)
      ·exact Or.inr ⟨decide_eq_true h1, decide_eq_false (fun h2 => hdig ⟨h1, h2⟩)⟩
      ·exact Or.inl (decide_eq_false h1)
     clear HGO HSTOP HEND hdig hno h45 hw hjl e1 hnum
     generalize hS : bs s = S at *
     generalize hn : k + j = n at *
     generalize bs (Code.numRun (s.drop k)) = RUN at *
     rcases hcl with hq1 | ⟨hq1, hq2⟩
     all_goals
      go_wp2_with fail
      go_quiet (fail)
      go_wp2_with fail
      generalize hwq : wr.drewN _ = wq
      have hrq : ScanR wq sb s n bad := by rw [← hwq]; exact HR.out
      have hgq : w.grownBy wq (some sb) := by rw [← hwq]; exact quietN hg _
      have p0 : wq.cell? ⟨sb, 0, none⟩ = some (.string S) := by rw [← hwq]; exact c0
      have p1 : wq.cell? ⟨sb, 1, none⟩ = some (.int .i64 (n : Nat)) := by rw [← hwq]; exact c1'
      clear hwq c0 c1' z1 HR hm
      try go_wp2_with fail
      have hSS : wq.drew.cell? ⟨sb, 0, none⟩ = some (.string S) ∧ wq.drew.cell? ⟨sb, 1, none⟩ = some (.int .i64 (n : Nat)) := ⟨p0, p1⟩
      refine wp_region_held_drew (S := fun w' => w'.cell? ⟨sb, 0, none⟩ = some (.string S) ∧ w'.cell? ⟨sb, 1, none⟩ = some (.int .i64 (n : Nat))) (by kernel_rfl) ⟨p0, p1⟩ (fun hHeld => ?_)
      have hrd : ScanR wq.drew sb s n bad := hrq
      have hgd : w.grownBy wq.drew (some sb) := quietN hgq 1
      clear hrq hgq p0 p1 hHeld
      generalize wq.drew = wd at hrd hgd hSS ⊢
      refine wpAnyH_take (i := 0) (v := .pointer (some ⟨sb, 0, none⟩)) rfl (by kernel_rfl) (by kernel_rfl) (by kernel_rfl) (fun _ _ _ h => h) (Or.inl ⟨by rfl, fun w' h => by  go_simp⟩) hSS ?_
      try simp only [Act.put, z1, z2, z4, z5, z6]
      refine wpAnyH_take (i := 1) (v := .pointer (some ⟨sb, 0, none⟩)) rfl (by kernel_rfl) (by kernel_rfl) (by kernel_rfl) (fun _ _ _ h => h) (Or.inl ⟨by rfl, fun w' h => by  go_simp⟩) hSS ?_
      try simp only [Act.put, z1, z2, z3, z4, z5, z6]
      refine wpAnyH_take (i := 2) (v := .pointer (some ⟨sb, 0, none⟩)) rfl (by kernel_rfl) (by kernel_rfl) (by kernel_rfl) (fun _ _ _ h => h) (Or.inl ⟨by rfl, fun w' h => by  go_simp⟩) hSS ?_
      try simp only [Act.put, z1, z2, z3, z4, z5, z6]
      refine wpAnyH_take (i := 3) (v := .string S) rfl (by kernel_rfl) (by kernel_rfl) (by kernel_rfl) (fun _ _ _ h => h) (Or.inl ⟨by rfl, fun w' h => by obtain ⟨r0, r1⟩ := h; go_simp⟩) hSS ?_
      try simp only [Act.put, z1, z2, z3, z4, z5, z6]
      refine wpAnyH_take (i := 4) (v := .int .i64 (k : Nat)) rfl (by kernel_rfl) (by kernel_rfl) (by kernel_rfl) (fun _ _ _ h => h) (Or.inl ⟨by rfl, fun w' h => by  go_simp⟩) hSS ?_
      try simp only [Act.put, z1, z2, z3, z4, z5, z6]
      refine wpAnyH_take (i := 5) (v := .pointer (some ⟨sb, 0, none⟩)) rfl (by kernel_rfl) (by kernel_rfl) (by kernel_rfl) (fun _ _ _ h => h) (Or.inl ⟨by rfl, fun w' h => by  go_simp⟩) hSS ?_
      try simp only [Act.put, z1, z2, z3, z4, z5, z6]
      refine wpAnyH_take (i := 6) (v := .pointer (some ⟨sb, 0, none⟩)) rfl (by kernel_rfl) (by kernel_rfl) (by kernel_rfl) (fun _ _ _ h => h) (Or.inl ⟨by rfl, fun w' h => by  go_simp⟩) hSS ?_
      try simp only [Act.put, z1, z2, z3, z4, z5, z6]
      refine wpAnyH_take (i := 7) (v := .pointer (some ⟨sb, 1, none⟩)) rfl (by kernel_rfl) (by kernel_rfl) (by kernel_rfl) (fun _ _ _ h => h) (Or.inl ⟨by rfl, fun w' h => by  go_simp⟩) hSS ?_
      try simp only [Act.put, z1, z2, z3, z4, z5, z6]
      refine wpAnyH_take (i := 8) (v := .int .i64 (n : Nat)) rfl (by kernel_rfl) (by kernel_rfl) (by kernel_rfl) (fun _ _ _ h => h) (Or.inl ⟨by rfl, fun w' h => by obtain ⟨r0, r1⟩ := h; go_simp⟩) hSS ?_
      try simp only [Act.put, z1, z2, z3, z4, z5, z6]
      refine wpAnyH_take (i := 9) (v := .string (S.extract k n)) rfl (by kernel_rfl) (by kernel_rfl) (by kernel_rfl) (fun _ _ _ h => h) (Or.inl ⟨by rfl, fun w' h => by  go_simp⟩) hSS ?_
      try simp only [Act.put, z1, z2, z3, z4, z5, z6]
      rw [HX.out]
      refine wpAnyH_ready (rs := [10]) (by kernel_rfl) (by simp) ?_
      refine AllReadyH.cons rfl (fun K hK => ?_) AllReadyH.nil
      rw [if_pos (by rfl)]
      go_wp2_with fail
      refine (HSG.out wd).mono ?_
      rintro en wd ⟨rfl, rfl⟩
      refine hK.out _ _ hSS (fun hHeld => ?_)
      clear hK K
      try simp only [Act.put, z1, z2, z3, z4, z5, z6]
      refine wpAnyH_take (i := 11) (v := .tuple #[.int .i64 sv, .bool ok]) rfl (by kernel_rfl) (by kernel_rfl) (by kernel_rfl) (fun _ _ _ h => h) (Or.inl ⟨by rfl, fun w' h => by  go_simp⟩) hSS ?_
      try simp only [Act.put, z1, z2, z3, z4, z5, z6]
      refine wpAnyH_take (i := 12) (v := .int .i64 sv) rfl (by kernel_rfl) (by kernel_rfl) (by kernel_rfl) (fun _ _ _ h => h) (Or.inl ⟨by rfl, fun w' h => by  go_simp⟩) hSS ?_
      try simp only [Act.put, z1, z2, z3, z4, z5, z6]
      refine wpAnyH_take (i := 13) (v := .bool ok) rfl (by kernel_rfl) (by kernel_rfl) (by kernel_rfl) (fun _ _ _ h => h) (Or.inl ⟨by rfl, fun w' h => by  go_simp⟩) hSS ?_
      try simp only [Act.put, z1, z2, z3, z4, z5, z6]
      refine wpAnyH_ready (rs := [14]) (by kernel_rfl) (by simp) ?_
      refine AllReadyH.cons rfl (fun K hK => ?_) AllReadyH.nil
      rw [if_pos (by rfl)]
      go_wp2_with fail
      refine hK.out _ _ hSS (fun hHeld => ?_)
      clear hK K
      try simp only [Act.put, z1, z2, z3, z4, z5, z6]
      refine wpAnyH_ready (rs := [15]) (by kernel_rfl) (by simp) ?_
      refine AllReadyH.cons rfl (fun K hK => ?_) AllReadyH.nil
      rw [if_pos (by rfl)]
      go_wp2_with fail
      refine hK.out _ _ hSS (fun hHeld => ?_)
      clear hK K
      try simp only [Act.put, z1, z2, z3, z4, z5, z6]
      refine wpAnyH_done (by kernel_rfl) ?_ _
      have y2 := blk_cell hrd 2 _ rfl
      have z2 := blk_froz hrd 2
      cases ok with
      | true =>
       have HF := HFIN.out wd hgd (by rw [Bool.not_true, Bool.or_false]; exact hrd)
       clear HFIN
       go_wp2
       go_ret
       exact HF
      | false =>
       have HF := HFIN.out (wd.setCell ⟨sb, 2, none⟩ (.bool true)) (grown_trans hgd (grown_set _ _ _ _)) (by rw [Bool.not_false, Bool.or_true]; exact set_block hrd)
       rw [size_set] at HF
       clear HFIN
       go_wp2
       go_ret
       exact HF
  ·have hw : Code.numRun (s.drop k) = (s.drop k).take j := (Code.takeWhile_take _ (s.drop k) j hall.out (by rw [List.length_drop]; omega) (fun c hc => by rw [List.getElem?_eq_none (by rw [List.length_drop]; omega)] at hc; cases hc)).1
   obtain ⟨hjl, hjp, HX⟩ := HEND.out hw
   rw [← hjl] at HFIN
   have hje : k + j = (bs s).size := by omega
   have hgt : ((k : Nat) : Int) < ((bs s).size : Int) := by omega
   have hd : decide (((bs s).size : Int) < ((bs s).size : Int)) = false := decide_eq_false (by omega)
   have h3 : (bs s).size ≤ 3000 := by omega
   have hkle : k ≤ (bs s).size := by omega
   rw [hje] at c0 c1' HX HFIN HR hm
   have HRR := HR
   clear HEND hw hall hj hlt hr hjl hje hnum e1
   generalize bs (Code.numRun (s.drop k)) = RUN at *
   generalize hS : bs s = S at *
   go_wp2_with fail
   go_quiet (fail)
   go_wp2_with fail
   generalize hwq : wr.drewN _ = wq
   have hrq : ScanR wq sb s S.size bad := by rw [← hwq]; exact HR.out
   have hgq : w.grownBy wq (some sb) := by rw [← hwq]; exact quietN hg _
   have p0 : wq.cell? ⟨sb, 0, none⟩ = some (.string S) := by rw [← hwq]; exact c0
   have p1 : wq.cell? ⟨sb, 1, none⟩ = some (.int .i64 (S.size : Nat)) := by rw [← hwq]; exact c1'
   clear hwq c0 c1' z1 HR hm
   try go_wp2_with fail
   have hSS : wq.drew.cell? ⟨sb, 0, none⟩ = some (.string S) ∧ wq.drew.cell? ⟨sb, 1, none⟩ = some (.int .i64 (S.size : Nat)) := ⟨p0, p1⟩
   refine wp_region_held_drew (S := fun w' => w'.cell? ⟨sb, 0, none⟩ = some (.string S) ∧ w'.cell? ⟨sb, 1, none⟩ = some (.int .i64 (S.size : Nat))) (by kernel_rfl) ⟨p0, p1⟩ (fun hHeld => ?_)
   have hrd : ScanR wq.drew sb s S.size bad := hrq
   have hgd : w.grownBy wq.drew (some sb) := quietN hgq 1
   clear hrq hgq p0 p1 hHeld
   generalize wq.drew = wd at hrd hgd hSS ⊢
   refine wpAnyH_take (i := 0) (v := .pointer (some ⟨sb, 0, none⟩)) rfl (by kernel_rfl) (by kernel_rfl) (by kernel_rfl) (fun _ _ _ h => h) (Or.inl ⟨by rfl, fun w' h => by  go_simp⟩) hSS ?_
   try simp only [Act.put, z1, z2, z4, z5, z6]
   refine wpAnyH_take (i := 1) (v := .pointer (some ⟨sb, 0, none⟩)) rfl (by kernel_rfl) (by kernel_rfl) (by kernel_rfl) (fun _ _ _ h => h) (Or.inl ⟨by rfl, fun w' h => by  go_simp⟩) hSS ?_
   try simp only [Act.put, z1, z2, z3, z4, z5, z6]
   refine wpAnyH_take (i := 2) (v := .pointer (some ⟨sb, 0, none⟩)) rfl (by kernel_rfl) (by kernel_rfl) (by kernel_rfl) (fun _ _ _ h => h) (Or.inl ⟨by rfl, fun w' h => by  go_simp⟩) hSS ?_
   try simp only [Act.put, z1, z2, z3, z4, z5, z6]
   refine wpAnyH_take (i := 3) (v := .string S) rfl (by kernel_rfl) (by kernel_rfl) (by kernel_rfl) (fun _ _ _ h => h) (Or.inl ⟨by rfl, fun w' h => by obtain ⟨r0, r1⟩ := h; go_simp⟩) hSS ?_
   try simp only [Act.put, z1, z2, z3, z4, z5, z6]
   refine wpAnyH_take (i := 4) (v := .int .i64 (k : Nat)) rfl (by kernel_rfl) (by kernel_rfl) (by kernel_rfl) (fun _ _ _ h => h) (Or.inl ⟨by rfl, fun w' h => by  go_simp⟩) hSS ?_
   try simp only [Act.put, z1, z2, z3, z4, z5, z6]
   refine wpAnyH_take (i := 5) (v := .pointer (some ⟨sb, 0, none⟩)) rfl (by kernel_rfl) (by kernel_rfl) (by kernel_rfl) (fun _ _ _ h => h) (Or.inl ⟨by rfl, fun w' h => by  go_simp⟩) hSS ?_
   try simp only [Act.put, z1, z2, z3, z4, z5, z6]
   refine wpAnyH_take (i := 6) (v := .pointer (some ⟨sb, 0, none⟩)) rfl (by kernel_rfl) (by kernel_rfl) (by kernel_rfl) (fun _ _ _ h => h) (Or.inl ⟨by rfl, fun w' h => by  go_simp⟩) hSS ?_
   try simp only [Act.put, z1, z2, z3, z4, z5, z6]
   refine wpAnyH_take (i := 7) (v := .pointer (some ⟨sb, 1, none⟩)) rfl (by kernel_rfl) (by kernel_rfl) (by kernel_rfl) (fun _ _ _ h => h) (Or.inl ⟨by rfl, fun w' h => by  go_simp⟩) hSS ?_
   try simp only [Act.put, z1, z2, z3, z4, z5, z6]
   refine wpAnyH_take (i := 8) (v := .int .i64 (S.size : Nat)) rfl (by kernel_rfl) (by kernel_rfl) (by kernel_rfl) (fun _ _ _ h => h) (Or.inl ⟨by rfl, fun w' h => by obtain ⟨r0, r1⟩ := h; go_simp⟩) hSS ?_
   try simp only [Act.put, z1, z2, z3, z4, z5, z6]
   refine wpAnyH_take (i := 9) (v := .string (S.extract k S.size)) rfl (by kernel_rfl) (by kernel_rfl) (by kernel_rfl) (fun _ _ _ h => h) (Or.inl ⟨by rfl, fun w' h => by  go_simp⟩) hSS ?_
   try simp only [Act.put, z1, z2, z3, z4, z5, z6]
   rw [HX.out]
   refine wpAnyH_ready (rs := [10]) (by kernel_rfl) (by simp) ?_
   refine AllReadyH.cons rfl (fun K hK => ?_) AllReadyH.nil
   rw [if_pos (by rfl)]
   go_wp2_with fail
   refine (HSG.out wd).mono ?_
   rintro en wd ⟨rfl, rfl⟩
   refine hK.out _ _ hSS (fun hHeld => ?_)
   clear hK K
   try simp only [Act.put, z1, z2, z3, z4, z5, z6]
   refine wpAnyH_take (i := 11) (v := .tuple #[.int .i64 sv, .bool ok]) rfl (by kernel_rfl) (by kernel_rfl) (by kernel_rfl) (fun _ _ _ h => h) (Or.inl ⟨by rfl, fun w' h => by  go_simp⟩) hSS ?_
   try simp only [Act.put, z1, z2, z3, z4, z5, z6]
   refine wpAnyH_take (i := 12) (v := .int .i64 sv) rfl (by kernel_rfl) (by kernel_rfl) (by kernel_rfl) (fun _ _ _ h => h) (Or.inl ⟨by rfl, fun w' h => by  go_simp⟩) hSS ?_
   try simp only [Act.put, z1, z2, z3, z4, z5, z6]
   refine wpAnyH_take (i := 13) (v := .bool ok) rfl (by kernel_rfl) (by kernel_rfl) (by kernel_rfl) (fun _ _ _ h => h) (Or.inl ⟨by rfl, fun w' h => by  go_simp⟩) hSS ?_
   try simp only [Act.put, z1, z2, z3, z4, z5, z6]
   refine wpAnyH_ready (rs := [14]) (by kernel_rfl) (by simp) ?_
   refine AllReadyH.cons rfl (fun K hK => ?_) AllReadyH.nil
   rw [if_pos (by rfl)]
   go_wp2_with fail
   refine hK.out _ _ hSS (fun hHeld => ?_)
   clear hK K
   try simp only [Act.put, z1, z2, z3, z4, z5, z6]
   refine wpAnyH_ready (rs := [15]) (by kernel_rfl) (by simp) ?_
   refine AllReadyH.cons rfl (fun K hK => ?_) AllReadyH.nil
   rw [if_pos (by rfl)]
   go_wp2_with fail
   refine hK.out _ _ hSS (fun hHeld => ?_)
   clear hK K
   try simp only [Act.put, z1, z2, z3, z4, z5, z6]
   refine wpAnyH_done (by kernel_rfl) ?_ _
   have y2 := blk_cell hrd 2 _ rfl
   have z2 := blk_froz hrd 2
   cases ok with
   | true =>
    have HF := HFIN.out wd hgd (by rw [Bool.not_true, Bool.or_false]; exact hrd)
    clear HFIN
    go_wp2
    go_ret
    exact HF
   | false =>
    have HF := HFIN.out (wd.setCell ⟨sb, 2, none⟩ (.bool true)) (grown_trans hgd (grown_set _ _ _ _)) (by rw [Bool.not_false, Bool.or_true]; exact set_block hrd)
    rw [size_set] at HF
    clear HFIN
    go_wp2
    go_ret
    exact HF
set_option maxRecDepth 100000 in
set_option maxHeartbeats 8000000 in
theorem tree_numT (sb : Nat) (s : List UInt8) (k : Nat) (bad : Bool) (w : World) (hsc : ScanR w sb s k bad) (hk : k ≤ s.length) (hs : s.length ≤ 3000) (h40 : bad = true ∨ Code.cut [40] (s.drop k) = none) (h33 : bad = true ∨ Code.cut [33, 40] (s.drop k) = none) (h35 : bad = true ∨ Code.cut [35] (s.drop k) = none) (hnum : Code.numRun (s.drop k) ≠ []) :
  Calls Tryz.prog 63 #[.pointer (some ⟨sb, 0, none⟩), .bool true] w fun en w' => TPost (gate bad (Code.atomQ (s.drop k))) s k sb w en w' := by
 have e1 := bs_size s
 have hno : ∀ (p : List UInt8), p.length ≤ 3000 → (bad = true ∨ Code.cut p (s.drop k) = none) → ∀ (w1 : World), ScanR w1 sb s k bad → Calls Tryz.prog 104 #[.pointer (some ⟨sb, 0, none⟩), .string (bs p)] w1 fun e w' => w1.grownBy w' (some sb) ∧ e = .returned (.bool false) ∧ ScanR w' sb s k bad := fun p hp hc w1 hr1 => by
  refine (is_any sb s p k bad w1 hr1 hk hs hp).mono ?_
  rintro e w' ⟨hg, ⟨r, h1, h2, _⟩ | ⟨_, h2, h3⟩⟩
  ·rcases hc with h | h
   ·rw [h] at h1; cases h1
   ·rw [h2] at h; cases h
  ·exact ⟨hg, h2, h3⟩
 have HIS40 := hide (hno [40] (by simp) h40)
 have HIS33 := hide (hno [33, 40] (by simp) h33)
 have HIS35 := hide (hno [35] (by simp) h35)
 have hl16 : (Code.numRun (s.drop k)).length ≤ 16777216 := by
  have h := congrArg List.length (Code.numRun_drop (s.drop k)).1
  simp only [List.length_append, List.length_drop] at h
  omega
 have hfin : ∀ w4 : World, w.grownBy w4 (some sb) → ScanR w4 sb s (k + (Code.numRun (s.drop k)).length) (bad || !(Ref.signed (Code.numRun (s.drop k))).2) → TPost (gate bad (Code.atomQ (s.drop k))) s k sb w (.returned (.pointer (some ⟨w4.heap.size, 0, none⟩))) (w4.alloc (.cells #[.int .u8 100, .string (bs []), .int .i64 (Ref.signed (Code.numRun (s.drop k))).1, .slice none 0 0] 135)) := fun w4 hg4 hr4 =>
  num_gate hnum hk (heap_alloc_new w4 _) hg4.size (grown_trans hg4 (grown_alloc _ _ _)) (stay_alloc hr4)
 have HSG : Hid (∀ w, Calls Tryz.prog 108 #[.string (bs (Code.numRun (s.drop k)))] w fun e w' => e = .returned (.tuple #[.int .i64 (Ref.signed (Code.numRun (s.drop k))).1, .bool (Ref.signed (Code.numRun (s.drop k))).2]) ∧ w' = w) := hide fun w => signed_bs _ w hl16
 have HFIN := hide hfin
 generalize (Ref.signed (Code.numRun (s.drop k))).1 = sv at *
 generalize (Ref.signed (Code.numRun (s.drop k))).2 = ok at *
 clear hno hfin h40 h35 hl16 h33
 go_enter Tryz.func63, Tryz.ntmps63
 go_wp2_with fail
 refine (HIS40.out w hsc).mono ?_
 rintro en w1 ⟨hg1, rfl, hr1⟩
 go_wp2_with fail
 refine (HIS33.out w1 hr1).mono ?_
 rintro en w2 ⟨hg2, rfl, hr2⟩
 go_wp2_with fail
 refine (HIS35.out w2 hr2).mono ?_
 rintro en w3 ⟨hg3, rfl, hr3⟩
 have hgw3 : w.grownBy w3 (some sb) := grown_trans (grown_trans hg1 hg2) hg3
 have c1 := blk_cell hr3 1 _ rfl
 go_wp2_with fail
 go_loopw [37] (fun _ wr => ∃ j : Nat, k + j ≤ s.length ∧ ScanR wr sb s (k + j) bad ∧ w.grownBy wr (some sb) ∧ Hid (((s.drop k).take j).all Code.numC = true)) (fun _ wr => s.length - scanAt wr sb)
 case atStart => exact ⟨0, by omega, hr3, hgw3, by simp [Hid]⟩
 case round =>
  obtain ⟨j, hj, hr, hg, hall⟩ := hrel
  have hm := hide (scanAt_of hr)
  have c0 := blk_cell hr 0 _ rfl
  have c1' := blk_cell hr 1 _ rfl
  have z1 := blk_froz hr 1
  have HR := hide hr
  clear c1 hr3 hgw3
  have hend : Code.numRun (s.drop k) = (s.drop k).take j → j = (Code.numRun (s.drop k)).length ∧ 0 < j ∧ Hid ((bs s).extract k (k + j) = bs (Code.numRun (s.drop k))) := fun hw => by
   have hl : (Code.numRun (s.drop k)).length = j := by rw [hw, List.length_take, List.length_drop]; omega
   have hp := List.length_pos_iff.2 hnum
   exact ⟨hl.symm, by omega, hide (by rw [bs_extract, bl_bs, hw, show k + j - k = j by omega])⟩
  have HEND := hide hend
  clear hend
  by_cases hlt : k + j < s.length
  ·have hlt' : k + j < (bs s).size := by omega
   have hget : (bs s)[k + j]'hlt' = s[k + j] := bs_get s (k + j) hlt hlt'
   have hgd : (s.drop k)[j]? = some s[k + j] := by rw [List.getElem?_drop]; exact List.getElem?_eq_getElem hlt
   have hstop : Code.numC ((bs s)[k + j]'hlt') = false → Code.numRun (s.drop k) = (s.drop k).take j := fun hf =>
    (Code.takeWhile_take _ (s.drop k) j hall.out (by rw [List.length_drop]; omega) (fun c hc => by rw [hgd] at hc; rw [← Option.some.inj hc, ← hget]; exact hf)).1
   have hgo : Code.numC ((bs s)[k + j]'hlt') = true → Hid (((s.drop k).take (j + 1)).all Code.numC = true) := fun hf => by
    refine hide ?_
    rw [List.take_add_one, hgd, List.all_append, hall.out]
    show (true && (Code.numC s[k + j] && true)) = true
    rw [← hget, hf]; rfl
   have HSTOP := hide hstop
   have HGO := hide hgo
   have hd : decide (((k + j : Nat) : Int) < ((bs s).size : Int)) = true := decide_eq_true (by omega)
   have hkk : ((k + j : Nat) : Int) < ((bs s).size : Int) := by omega
   have h3 : (bs s).size ≤ 3000 := by omega
   have hkle : k ≤ k + j := by omega
   have hkl2 : k + j ≤ (bs s).size := by omega
   have HLT := hide hlt
   clear hget hgd hstop hgo hall hj hlt
   by_cases hdig : (48 : Int) ≤ (((bs s)[k + j]'hlt').toNat : Int) ∧ (((bs s)[k + j]'hlt').toNat : Int) ≤ (57 : Int)
   ·obtain ⟨h1, h2⟩ := hdig
    have HA := HGO.out (by unfold Code.numC; rw [isIn_yes (lo := 48) (hi := 57) h1 h2]; rfl)
    have hq1 : decide ((48 : Int) ≤ (((bs s)[k + j]'hlt').toNat : Int)) = true := decide_eq_true h1
    have hq2 : decide ((((bs s)[k + j]'hlt').toNat : Int) ≤ (57 : Int)) = true := decide_eq_true h2
    clear HGO HSTOP HEND e1
    generalize hS : bs s = S at *
    generalize hn : k + j = n at *
    go_wp2_with fail
    go_quiet (fail)
    go_wp2
    have hlt := HLT.out
    have hset := fun q => scan_set1 (w := wr.drewN q) HR.out (k + (j + 1)) ((n : Int) + 1) (by omega)
    exact ⟨⟨j + 1, by omega, hset _, grown_trans (quietN hg _) (grown_set _ _ _ _), HA⟩, by rw [hm.out, scanAt_of (hset _)]; omega⟩
   ·have hno := isIn_no (lo := 48) (hi := 57) (c := (bs s)[k + j]'hlt') (fun h => hdig h)
    by_cases h45 : (((bs s)[k + j]'hlt').toNat : Int) = 45
    ·have HA := HGO.out (by
      unfold Code.numC
      have : (bs s)[k + j]'hlt' = 45 := UInt8.toNat.inj (by have h : (((bs s)[k + j]'hlt').toNat : Int) = 45 := h45; show _ = 45; omega)
      rw [this]; rfl)
     have hq1 : decide ((48 : Int) ≤ (((bs s)[k + j]'hlt').toNat : Int)) = false := decide_eq_false (by omega)
     have hq3 : ((((bs s)[k + j]'hlt').toNat : Int) == 45) = true := beq_iff_eq.2 h45
     clear HGO HSTOP HEND hdig hno h45 e1
     generalize hS : bs s = S at *
     generalize hn : k + j = n at *
     go_wp2_with fail
     go_quiet (fail)
     go_wp2
     have hlt := HLT.out
     have hset := fun q => scan_set1 (w := wr.drewN q) HR.out (k + (j + 1)) ((n : Int) + 1) (by omega)
     exact ⟨⟨j + 1, by omega, hset _, grown_trans (quietN hg _) (grown_set _ _ _ _), HA⟩, by rw [hm.out, scanAt_of (hset _)]; omega⟩
    ·have hw := HSTOP.out (by
      unfold Code.numC
      rw [hno]
      show ((bs s)[k + j]'hlt' == 45) = false
      refine beq_eq_false_iff_ne.2 (fun h => h45 ?_)
      rw [h]; rfl)
     obtain ⟨hjl, hjp, HX⟩ := HEND.out hw
     rw [← hjl] at HFIN
     have hq3 : ((((bs s)[k + j]'hlt').toNat : Int) == 45) = false := beq_eq_false_iff_ne.2 h45
     have hgt : ((k : Nat) : Int) < ((k + j : Nat) : Int) := by omega
     have hcl : (decide ((48 : Int) ≤ (((bs s)[k + j]'hlt').toNat : Int)) = false) ∨ (decide ((48 : Int) ≤ (((bs s)[k + j]'hlt').toNat : Int)) = true ∧ decide ((((bs s)[k + j]'hlt').toNat : Int) ≤ (57 : Int)) = false) := by
      by_cases h1 : (48 : Int) ≤ (((bs s)[k + j]'hlt').toNat : Int)
      ·exact Or.inr ⟨decide_eq_true h1, decide_eq_false (fun h2 => hdig ⟨h1, h2⟩)⟩
      ·exact Or.inl (decide_eq_false h1)
     clear HGO HSTOP HEND hdig hno h45 hw hjl e1 hnum
     generalize hS : bs s = S at *
     generalize hn : k + j = n at *
     generalize bs (Code.numRun (s.drop k)) = RUN at *
     rcases hcl with hq1 | ⟨hq1, hq2⟩
     all_goals
      go_wp2_with fail
      go_quiet (fail)
      go_wp2_with fail
      generalize hwq : wr.drewN _ = wq
      have hrq : ScanR wq sb s n bad := by rw [← hwq]; exact HR.out
      have hgq : w.grownBy wq (some sb) := by rw [← hwq]; exact quietN hg _
      have p0 : wq.cell? ⟨sb, 0, none⟩ = some (.string S) := by rw [← hwq]; exact c0
      have p1 : wq.cell? ⟨sb, 1, none⟩ = some (.int .i64 (n : Nat)) := by rw [← hwq]; exact c1'
      clear hwq c0 c1' z1 HR hm
      try go_wp2_with fail
      have hSS : wq.drew.cell? ⟨sb, 0, none⟩ = some (.string S) ∧ wq.drew.cell? ⟨sb, 1, none⟩ = some (.int .i64 (n : Nat)) := ⟨p0, p1⟩
      refine wp_region_held_drew (S := fun w' => w'.cell? ⟨sb, 0, none⟩ = some (.string S) ∧ w'.cell? ⟨sb, 1, none⟩ = some (.int .i64 (n : Nat))) (by kernel_rfl) ⟨p0, p1⟩ (fun hHeld => ?_)
      have hrd : ScanR wq.drew sb s n bad := hrq
      have hgd : w.grownBy wq.drew (some sb) := quietN hgq 1
      clear hrq hgq p0 p1 hHeld
      generalize wq.drew = wd at hrd hgd hSS ⊢
      refine wpAnyH_take (i := 0) (v := .pointer (some ⟨sb, 0, none⟩)) rfl (by kernel_rfl) (by kernel_rfl) (by kernel_rfl) (fun _ _ _ h => h) (Or.inl ⟨by rfl, fun w' h => by  go_simp⟩) hSS ?_
      try simp only [Act.put, z1, z2, z4, z5, z6]
      refine wpAnyH_take (i := 1) (v := .pointer (some ⟨sb, 0, none⟩)) rfl (by kernel_rfl) (by kernel_rfl) (by kernel_rfl) (fun _ _ _ h => h) (Or.inl ⟨by rfl, fun w' h => by  go_simp⟩) hSS ?_
      try simp only [Act.put, z1, z2, z3, z4, z5, z6]
      refine wpAnyH_take (i := 2) (v := .pointer (some ⟨sb, 0, none⟩)) rfl (by kernel_rfl) (by kernel_rfl) (by kernel_rfl) (fun _ _ _ h => h) (Or.inl ⟨by rfl, fun w' h => by  go_simp⟩) hSS ?_
      try simp only [Act.put, z1, z2, z3, z4, z5, z6]
      refine wpAnyH_take (i := 3) (v := .string S) rfl (by kernel_rfl) (by kernel_rfl) (by kernel_rfl) (fun _ _ _ h => h) (Or.inl ⟨by rfl, fun w' h => by obtain ⟨r0, r1⟩ := h; go_simp⟩) hSS ?_
      try simp only [Act.put, z1, z2, z3, z4, z5, z6]
      refine wpAnyH_take (i := 4) (v := .int .i64 (k : Nat)) rfl (by kernel_rfl) (by kernel_rfl) (by kernel_rfl) (fun _ _ _ h => h) (Or.inl ⟨by rfl, fun w' h => by  go_simp⟩) hSS ?_
      try simp only [Act.put, z1, z2, z3, z4, z5, z6]
      refine wpAnyH_take (i := 5) (v := .pointer (some ⟨sb, 0, none⟩)) rfl (by kernel_rfl) (by kernel_rfl) (by kernel_rfl) (fun _ _ _ h => h) (Or.inl ⟨by rfl, fun w' h => by  go_simp⟩) hSS ?_
      try simp only [Act.put, z1, z2, z3, z4, z5, z6]
      refine wpAnyH_take (i := 6) (v := .pointer (some ⟨sb, 0, none⟩)) rfl (by kernel_rfl) (by kernel_rfl) (by kernel_rfl) (fun _ _ _ h => h) (Or.inl ⟨by rfl, fun w' h => by  go_simp⟩) hSS ?_
      try simp only [Act.put, z1, z2, z3, z4, z5, z6]
      refine wpAnyH_take (i := 7) (v := .pointer (some ⟨sb, 1, none⟩)) rfl (by kernel_rfl) (by kernel_rfl) (by kernel_rfl) (fun _ _ _ h => h) (Or.inl ⟨by rfl, fun w' h => by  go_simp⟩) hSS ?_
      try simp only [Act.put, z1, z2, z3, z4, z5, z6]
      refine wpAnyH_take (i := 8) (v := .int .i64 (n : Nat)) rfl (by kernel_rfl) (by kernel_rfl) (by kernel_rfl) (fun _ _ _ h => h) (Or.inl ⟨by rfl, fun w' h => by obtain ⟨r0, r1⟩ := h; go_simp⟩) hSS ?_
      try simp only [Act.put, z1, z2, z3, z4, z5, z6]
      refine wpAnyH_take (i := 9) (v := .string (S.extract k n)) rfl (by kernel_rfl) (by kernel_rfl) (by kernel_rfl) (fun _ _ _ h => h) (Or.inl ⟨by rfl, fun w' h => by  go_simp⟩) hSS ?_
      try simp only [Act.put, z1, z2, z3, z4, z5, z6]
      rw [HX.out]
      refine wpAnyH_ready (rs := [10]) (by kernel_rfl) (by simp) ?_
      refine AllReadyH.cons rfl (fun K hK => ?_) AllReadyH.nil
      rw [if_pos (by rfl)]
      go_wp2_with fail
      refine (HSG.out wd).mono ?_
      rintro en wd ⟨rfl, rfl⟩
      refine hK.out _ _ hSS (fun hHeld => ?_)
      clear hK K
      try simp only [Act.put, z1, z2, z3, z4, z5, z6]
      refine wpAnyH_take (i := 11) (v := .tuple #[.int .i64 sv, .bool ok]) rfl (by kernel_rfl) (by kernel_rfl) (by kernel_rfl) (fun _ _ _ h => h) (Or.inl ⟨by rfl, fun w' h => by  go_simp⟩) hSS ?_
      try simp only [Act.put, z1, z2, z3, z4, z5, z6]
      refine wpAnyH_take (i := 12) (v := .int .i64 sv) rfl (by kernel_rfl) (by kernel_rfl) (by kernel_rfl) (fun _ _ _ h => h) (Or.inl ⟨by rfl, fun w' h => by  go_simp⟩) hSS ?_
      try simp only [Act.put, z1, z2, z3, z4, z5, z6]
      refine wpAnyH_take (i := 13) (v := .bool ok) rfl (by kernel_rfl) (by kernel_rfl) (by kernel_rfl) (fun _ _ _ h => h) (Or.inl ⟨by rfl, fun w' h => by  go_simp⟩) hSS ?_
      try simp only [Act.put, z1, z2, z3, z4, z5, z6]
      refine wpAnyH_ready (rs := [14]) (by kernel_rfl) (by simp) ?_
      refine AllReadyH.cons rfl (fun K hK => ?_) AllReadyH.nil
      rw [if_pos (by rfl)]
      go_wp2_with fail
      refine hK.out _ _ hSS (fun hHeld => ?_)
      clear hK K
      try simp only [Act.put, z1, z2, z3, z4, z5, z6]
      refine wpAnyH_ready (rs := [15]) (by kernel_rfl) (by simp) ?_
      refine AllReadyH.cons rfl (fun K hK => ?_) AllReadyH.nil
      rw [if_pos (by rfl)]
      go_wp2_with fail
      refine hK.out _ _ hSS (fun hHeld => ?_)
      clear hK K
      try simp only [Act.put, z1, z2, z3, z4, z5, z6]
      refine wpAnyH_done (by kernel_rfl) ?_ _
      have y2 := blk_cell hrd 2 _ rfl
      have z2 := blk_froz hrd 2
      cases ok with
      | true =>
       have HF := HFIN.out wd hgd (by rw [Bool.not_true, Bool.or_false]; exact hrd)
       clear HFIN
       go_wp2
       go_ret
       exact HF
      | false =>
       have HF := HFIN.out (wd.setCell ⟨sb, 2, none⟩ (.bool true)) (grown_trans hgd (grown_set _ _ _ _)) (by rw [Bool.not_false, Bool.or_true]; exact set_block hrd)
       rw [size_set] at HF
       clear HFIN
       go_wp2
       go_ret
       exact HF
  ·have hw : Code.numRun (s.drop k) = (s.drop k).take j := (Code.takeWhile_take _ (s.drop k) j hall.out (by rw [List.length_drop]; omega) (fun c hc => by rw [List.getElem?_eq_none (by rw [List.length_drop]; omega)] at hc; cases hc)).1
   obtain ⟨hjl, hjp, HX⟩ := HEND.out hw
   rw [← hjl] at HFIN
   have hje : k + j = (bs s).size := by omega
   have hgt : ((k : Nat) : Int) < ((bs s).size : Int) := by omega
   have hd : decide (((bs s).size : Int) < ((bs s).size : Int)) = false := decide_eq_false (by omega)
   have h3 : (bs s).size ≤ 3000 := by omega
   have hkle : k ≤ (bs s).size := by omega
   rw [hje] at c0 c1' HX HFIN HR hm
   have HRR := HR
   clear HEND hw hall hj hlt hr hjl hje hnum e1
   generalize bs (Code.numRun (s.drop k)) = RUN at *
   generalize hS : bs s = S at *
   go_wp2_with fail
   go_quiet (fail)
   go_wp2_with fail
   generalize hwq : wr.drewN _ = wq
   have hrq : ScanR wq sb s S.size bad := by rw [← hwq]; exact HR.out
   have hgq : w.grownBy wq (some sb) := by rw [← hwq]; exact quietN hg _
   have p0 : wq.cell? ⟨sb, 0, none⟩ = some (.string S) := by rw [← hwq]; exact c0
   have p1 : wq.cell? ⟨sb, 1, none⟩ = some (.int .i64 (S.size : Nat)) := by rw [← hwq]; exact c1'
   clear hwq c0 c1' z1 HR hm
   try go_wp2_with fail
   have hSS : wq.drew.cell? ⟨sb, 0, none⟩ = some (.string S) ∧ wq.drew.cell? ⟨sb, 1, none⟩ = some (.int .i64 (S.size : Nat)) := ⟨p0, p1⟩
   refine wp_region_held_drew (S := fun w' => w'.cell? ⟨sb, 0, none⟩ = some (.string S) ∧ w'.cell? ⟨sb, 1, none⟩ = some (.int .i64 (S.size : Nat))) (by kernel_rfl) ⟨p0, p1⟩ (fun hHeld => ?_)
   have hrd : ScanR wq.drew sb s S.size bad := hrq
   have hgd : w.grownBy wq.drew (some sb) := quietN hgq 1
   clear hrq hgq p0 p1 hHeld
   generalize wq.drew = wd at hrd hgd hSS ⊢
   refine wpAnyH_take (i := 0) (v := .pointer (some ⟨sb, 0, none⟩)) rfl (by kernel_rfl) (by kernel_rfl) (by kernel_rfl) (fun _ _ _ h => h) (Or.inl ⟨by rfl, fun w' h => by  go_simp⟩) hSS ?_
   try simp only [Act.put, z1, z2, z4, z5, z6]
   refine wpAnyH_take (i := 1) (v := .pointer (some ⟨sb, 0, none⟩)) rfl (by kernel_rfl) (by kernel_rfl) (by kernel_rfl) (fun _ _ _ h => h) (Or.inl ⟨by rfl, fun w' h => by  go_simp⟩) hSS ?_
   try simp only [Act.put, z1, z2, z3, z4, z5, z6]
   refine wpAnyH_take (i := 2) (v := .pointer (some ⟨sb, 0, none⟩)) rfl (by kernel_rfl) (by kernel_rfl) (by kernel_rfl) (fun _ _ _ h => h) (Or.inl ⟨by rfl, fun w' h => by  go_simp⟩) hSS ?_
   try simp only [Act.put, z1, z2, z3, z4, z5, z6]
   refine wpAnyH_take (i := 3) (v := .string S) rfl (by kernel_rfl) (by kernel_rfl) (by kernel_rfl) (fun _ _ _ h => h) (Or.inl ⟨by rfl, fun w' h => by obtain ⟨r0, r1⟩ := h; go_simp⟩) hSS ?_
   try simp only [Act.put, z1, z2, z3, z4, z5, z6]
   refine wpAnyH_take (i := 4) (v := .int .i64 (k : Nat)) rfl (by kernel_rfl) (by kernel_rfl) (by kernel_rfl) (fun _ _ _ h => h) (Or.inl ⟨by rfl, fun w' h => by  go_simp⟩) hSS ?_
   try simp only [Act.put, z1, z2, z3, z4, z5, z6]
   refine wpAnyH_take (i := 5) (v := .pointer (some ⟨sb, 0, none⟩)) rfl (by kernel_rfl) (by kernel_rfl) (by kernel_rfl) (fun _ _ _ h => h) (Or.inl ⟨by rfl, fun w' h => by  go_simp⟩) hSS ?_
   try simp only [Act.put, z1, z2, z3, z4, z5, z6]
   refine wpAnyH_take (i := 6) (v := .pointer (some ⟨sb, 0, none⟩)) rfl (by kernel_rfl) (by kernel_rfl) (by kernel_rfl) (fun _ _ _ h => h) (Or.inl ⟨by rfl, fun w' h => by  go_simp⟩) hSS ?_
   try simp only [Act.put, z1, z2, z3, z4, z5, z6]
   refine wpAnyH_take (i := 7) (v := .pointer (some ⟨sb, 1, none⟩)) rfl (by kernel_rfl) (by kernel_rfl) (by kernel_rfl) (fun _ _ _ h => h) (Or.inl ⟨by rfl, fun w' h => by  go_simp⟩) hSS ?_
   try simp only [Act.put, z1, z2, z3, z4, z5, z6]
   refine wpAnyH_take (i := 8) (v := .int .i64 (S.size : Nat)) rfl (by kernel_rfl) (by kernel_rfl) (by kernel_rfl) (fun _ _ _ h => h) (Or.inl ⟨by rfl, fun w' h => by obtain ⟨r0, r1⟩ := h; go_simp⟩) hSS ?_
   try simp only [Act.put, z1, z2, z3, z4, z5, z6]
   refine wpAnyH_take (i := 9) (v := .string (S.extract k S.size)) rfl (by kernel_rfl) (by kernel_rfl) (by kernel_rfl) (fun _ _ _ h => h) (Or.inl ⟨by rfl, fun w' h => by  go_simp⟩) hSS ?_
   try simp only [Act.put, z1, z2, z3, z4, z5, z6]
   rw [HX.out]
   refine wpAnyH_ready (rs := [10]) (by kernel_rfl) (by simp) ?_
   refine AllReadyH.cons rfl (fun K hK => ?_) AllReadyH.nil
   rw [if_pos (by rfl)]
   go_wp2_with fail
   refine (HSG.out wd).mono ?_
   rintro en wd ⟨rfl, rfl⟩
   refine hK.out _ _ hSS (fun hHeld => ?_)
   clear hK K
   try simp only [Act.put, z1, z2, z3, z4, z5, z6]
   refine wpAnyH_take (i := 11) (v := .tuple #[.int .i64 sv, .bool ok]) rfl (by kernel_rfl) (by kernel_rfl) (by kernel_rfl) (fun _ _ _ h => h) (Or.inl ⟨by rfl, fun w' h => by  go_simp⟩) hSS ?_
   try simp only [Act.put, z1, z2, z3, z4, z5, z6]
   refine wpAnyH_take (i := 12) (v := .int .i64 sv) rfl (by kernel_rfl) (by kernel_rfl) (by kernel_rfl) (fun _ _ _ h => h) (Or.inl ⟨by rfl, fun w' h => by  go_simp⟩) hSS ?_
   try simp only [Act.put, z1, z2, z3, z4, z5, z6]
   refine wpAnyH_take (i := 13) (v := .bool ok) rfl (by kernel_rfl) (by kernel_rfl) (by kernel_rfl) (fun _ _ _ h => h) (Or.inl ⟨by rfl, fun w' h => by  go_simp⟩) hSS ?_
   try simp only [Act.put, z1, z2, z3, z4, z5, z6]
   refine wpAnyH_ready (rs := [14]) (by kernel_rfl) (by simp) ?_
   refine AllReadyH.cons rfl (fun K hK => ?_) AllReadyH.nil
   rw [if_pos (by rfl)]
   go_wp2_with fail
   refine hK.out _ _ hSS (fun hHeld => ?_)
   clear hK K
   try simp only [Act.put, z1, z2, z3, z4, z5, z6]
   refine wpAnyH_ready (rs := [15]) (by kernel_rfl) (by simp) ?_
   refine AllReadyH.cons rfl (fun K hK => ?_) AllReadyH.nil
   rw [if_pos (by rfl)]
   go_wp2_with fail
   refine hK.out _ _ hSS (fun hHeld => ?_)
   clear hK K
   try simp only [Act.put, z1, z2, z3, z4, z5, z6]
   refine wpAnyH_done (by kernel_rfl) ?_ _
   have y2 := blk_cell hrd 2 _ rfl
   have z2 := blk_froz hrd 2
   cases ok with
   | true =>
    have HF := HFIN.out wd hgd (by rw [Bool.not_true, Bool.or_false]; exact hrd)
    clear HFIN
    go_wp2
    go_ret
    exact HF
   | false =>
    have HF := HFIN.out (wd.setCell ⟨sb, 2, none⟩ (.bool true)) (grown_trans hgd (grown_set _ _ _ _)) (by rw [Bool.not_false, Bool.or_true]; exact set_block hrd)
    rw [size_set] at HF
    clear HFIN
    go_wp2
    go_ret
    exact HF
end Go.Proofs.YtedkjanogjglkaaGreatDoor.D
