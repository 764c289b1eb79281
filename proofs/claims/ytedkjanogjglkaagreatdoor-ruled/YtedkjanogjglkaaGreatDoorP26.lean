/-
  Parts of the proof: RefInner, RefTreeW, RefWalkT.
-/
import Derived.Test.YtedkjanogjglkaaGreatDoorP24
import Derived.Test.YtedkjanogjglkaaGreatDoorP10
import Derived.Test.YtedkjanogjglkaaGreatDoorP01
import Derived.Deep.RegionHeld3
import Derived.Deep.AppendLies
import Derived.Test.YtedkjanogjglkaaGreatDoorP25
import Derived.Test.YtedkjanogjglkaaGreatDoorP11
namespace Go.Proofs.YtedkjanogjglkaaGreatDoor.D
open Go.RowKit
open Go.Proofs.YtedkjanogjglkaaGreatDoor.Code (RTree)
theorem infoTreeP : (Tryz.prog.info? 67).map (fun i => (i.zero, i.size, i.bytes)) = some (some (.pointer none), 1, 8) := by kernel_rfl
def Kid (w wr : World) (xb : Nat) (kv : Value) (b : Nat) : Prop := w.heap.size ≤ b ∧ b < wr.heap.size ∧ b ≠ xb ∧ kv.ownBlock ≠ some b
def KidsInv (G : Option (RTree × List UInt8)) (f : List UInt8 → Option (RTree × List UInt8)) (mk : List RTree → RTree) (s : List UInt8) (w wr : World) (xb : Nat) (kv : Value) (vs : List Value) (n j k : Nat) (bad : Bool) : Prop :=
 (bad = false ∧ ∃ ts, vs.length = j ∧ RepDs wr (Kid w wr xb kv) vs ts ∧ G = (Code.kidsP f (n - j) (s.drop k)).bind fun p => (Code.cut [41] p.2).map fun r => (mk (ts ++ p.1), r)) ∨ (bad = true ∧ G = none)
set_option maxRecDepth 100000 in
set_option maxHeartbeats 8000000 in
theorem inner_of (e : Nat) (hT : TreeC e) : InnerC e := by
 intro kd mk hmk result sb s k bad w hsc hk hke hs
 obtain ⟨ib, hib, jb0, jb1, jb2⟩ := info_parts infoTreeP
 have HTC := hide hT
 have HMK := hide hmk
 have HW := hide (word_any sb s k bad w hsc hk hs)
 obtain ⟨hwl, hwb⟩ := word_at s k hk
 have har := arity_named (Code.word (s.drop k))
 have HG : Hid (Code.innerP (Code.treeQ result e) mk (s.drop k) = (Code.opNamed (Code.word (s.drop k))).bind fun q => (Code.kidsP (Code.treeQ result e) (Code.opOf q) (Code.behind (s.drop k))).bind fun p => (Code.cut [41] p.2).map fun r => (mk q p.1, r)) := rfl
 rw [← hwb] at HG
 generalize Code.innerP (Code.treeQ result e) mk (s.drop k) = G at *
 generalize Code.word (s.drop k) = ww at *
 have HAR := hide (arity_bs ww)
 generalize Ref.arity ww = ar at *
 have hslt := lt_of_block hsc
 have HARN := hide har
 obtain ⟨GG, hGG⟩ : ∃ GG, gate bad G = GG := ⟨_, rfl⟩
 rw [hGG]
 have HGG := hide hGG
 clear hT hmk hwb har hGG
 go_enter Tryz.func62, Tryz.ntmps62
 go_wp2_with fail
 refine (HW.out).mono ?_
 rintro en w1 ⟨hg1, rfl, hr1⟩
 have hz1 := hg1.size
 go_wp2_with fail
 generalize hw2 : w1.alloc _ = w2
 have hx2 : w2.heap[w1.heap.size]? = some (.cells #[.int .u8 (kd : Nat), .string (bs ww), .int .i64 0, .slice none 0 0] 135) := by rw [← hw2]; exact heap_alloc_new w1 _
 have hb2 : Below w1.heap.size w1 w2 := by rw [← hw2]; exact below_al (Below.refl _ _) _
 have hz2 : w2.heap.size = w1.heap.size + 1 := by rw [← hw2]; simp
 clear hw2
 generalize hxb : w1.heap.size = xb at *
 have hr2 : ScanR w2 sb s (k + ww.length) bad := (hb2.block sb (by omega)).trans hr1
 have hg2 : w.grownBy w2 (some sb) := grown_trans hg1 (by rw [← hxb] at hb2; exact grown_below hb2)
 have hsx : sb ≠ xb := by omega
 refine (HAR.out w2).mono ?_
 rintro en w2 ⟨rfl, rfl⟩
 by_cases har0 : ar = 0
 ·have HN : Hid (GG = none) := by
   rw [← HGG.out]
   rcases HARN.out with ⟨q, hq, _, _, ha, ha1, _⟩ | ⟨hq, _⟩
   ·omega
   ·rw [HG.out, hq]
    cases bad <;> exact rfl
  subst har0
  have c2 := blk_cell hr2 2 _ rfl
  have z2 := blk_froz hr2 2
  have hr3 : ScanR (w2.setCell ⟨sb, 2, none⟩ (.bool true)) sb s (k + ww.length) true := set_block hr2
  have hg3 : w.grownBy (w2.setCell ⟨sb, 2, none⟩ (.bool true)) (some sb) := grown_trans hg2 (grown_set _ _ _ _)
  clear HARN HG HGG
  go_wp2_with fail
  refine wp_loop_rounds 1 ?_
  rw [rounds_succ]
  go_wp2_with fail
  refine (must_any sb s [41] _ true _ hr3 hwl hs (by simp)).mono ?_
  rintro en w4 ⟨hg4, rfl, ⟨r, h1, _⟩ | ⟨_, hr4⟩⟩
  ·cases h1
  ·go_wp2
   go_ret
   exact ⟨xb, k + ww.length, true, rfl, by omega, hwl, hr4, grown_trans hg3 hg4, Or.inr ⟨rfl, HN.out⟩⟩
 ·obtain ⟨q, hq13, hwq, hareq, hN1, hN2, HGQ⟩ : ∃ q, q < 13 ∧ Hid (ww = Code.nameOf q) ∧ Hid (ar = (Code.opOf q : Nat)) ∧ 1 ≤ Code.opOf q ∧ Code.opOf q ≤ 2 ∧ Hid (G = (Code.kidsP (Code.treeQ result e) (Code.opOf q) (s.drop (k + ww.length))).bind fun p => (Code.cut [41] p.2).map fun r => (mk q p.1, r)) := by
   rcases HARN.out with ⟨q, hq, h1, h2, ha, ha1, ha2⟩ | ⟨_, ha⟩
   ·exact ⟨q, h1, h2, ha, ha1, ha2, by rw [HG.out, hq]; exact rfl⟩
   ·exact absurd ha har0
  have hnz : (ar == 0) = false := beq_eq_false_iff_ne.2 har0
  have HNN : Hid (Code.opOf q = Code.opOf q) := hide rfl
  generalize hNe : Code.opOf q = N at *
  have hare : ar = (N : Int) := hareq.out
  subst hare
  have HINV0 : Hid (KidsInv GG (Code.treeQ result e) (mk q) s w w2 xb (.slice none 0 0) [] N 0 (k + ww.length) bad) := by
   cases bad with
   | true => exact Or.inr ⟨rfl, by rw [← HGG.out]; rfl⟩
   | false => exact Or.inl ⟨rfl, [], rfl, trivial, by rw [← HGG.out]; show G = _; rw [Nat.sub_zero]; simpa using HGQ.out⟩
  clear HARN HG HGG HGQ hareq har0 HNN
  go_wp2_with fail
  go_loopw [9] (fun i wr => ∃ (j k' : Nat) (bad' : Bool) (kv : Value) (vs : List Value), j ≤ N ∧ i = .int .i64 (j : Nat) ∧ ScanR wr sb s k' bad' ∧ k ≤ k' ∧ k' ≤ s.length ∧ w.grownBy wr (some sb) ∧ wr.heap[xb]? = some (.cells #[.int .u8 (kd : Nat), .string (bs ww), .int .i64 0, kv] 135) ∧ wr.ownsRow 0 67 1 kv vs.length vs ∧ (∀ g, kv.ownBlock = some g → xb < g) ∧ vs.length ≤ j ∧
    Hid (KidsInv GG (Code.treeQ result e) (mk q) s w wr xb kv vs N j k' bad')) (fun i _ => N - (intOf i).toNat)
  case atStart => exact ⟨0, k + ww.length, bad, .slice none 0 0, [], by omega, rfl, hr2, by omega, hwl, hg2, hx2, ⟨rfl, Or.inl ⟨rfl, rfl⟩⟩, fun g h => (nomatch h), Nat.le_refl _, HINV0⟩
  case round =>
   obtain ⟨j, k', bad', kv, vs, hj, rfl, hr, hkk, hk', hgr, hx, hcs, hkvb, hvl, hinv⟩ := hrel
   clear HINV0 hr2 hx2 hg2
   obtain ⟨kp, kc, rfl⟩ := own_slice hcs
   have hxlt := lt_of_block hx
   have c2 := blk_cell hr 2 _ rfl
   have HMUST := hide (must_any sb s [41] k' bad' wr hr hk' hs (by simp))
   have hend : (j = N ∨ bad' = true) → Hid (∀ en w', (w.grownBy w' (some sb) ∧ wr.grownBy w' (some sb) ∧ ((∃ r, bad' = false ∧ Code.cut [41] (s.drop k') = some r ∧ s.drop (k' + 1) = r ∧ k' + 1 ≤ s.length ∧ ScanR w' sb s (k' + 1) false) ∨ ((bad' = true ∨ Code.cut [41] (s.drop k') = none) ∧ ScanR w' sb s k' true))) → en = Ending.returned (.pointer (some ⟨xb, 0, none⟩)) → TPost GG s k sb w en w') := fun hje => hide (by
    rintro en w' ⟨hgw, hgw', hcase⟩ rfl
    rcases hcase with ⟨r, h1, h2, h3, h4, h5⟩ | ⟨h1, h5⟩
    ·have hjN : j = N := by
      rcases hje with h | h
      ·exact h
      ·rw [h1] at h; cases h
     rcases hinv.out with ⟨_, ts, hvlen, hds, hGGe⟩ | ⟨hb, _⟩
     ·refine ⟨xb, k' + 1, false, rfl, by omega, h4, h5, hgw, Or.inl ⟨rfl, mk q ts, ?_, ?_⟩⟩
      ·rw [hGGe, hjN, Nat.sub_self]
       simp [Code.kidsP, h2, h3]
      ·have hx' : w'.heap[xb]? = some (.cells #[.int .u8 (kd : Nat), .string (bs ww), .int .i64 0, .slice kp vs.length kc] 135) := kept_block hx hgw' (fun h => hsx h.symm)
       have hfr : ∀ b, Kid w wr xb (.slice kp vs.length kc) b → Fresh w w' b := fun b hb => ⟨hb.1, Nat.lt_of_lt_of_le hb.2.1 hgw'.size⟩
       have hds' : RepDs w' (Fresh w w') vs ts := RepDs.kept (keepsD_grown hr hgw') hfr ts vs hds
       have hcs' : w'.ownsRow 0 67 1 (.slice kp vs.length kc) vs.length vs := own_kept hr hgw' hcs (by decide)
       have hkg : ∀ g, (Value.slice kp vs.length kc).ownBlock = some g → Fresh w w' g := fun g hg => ⟨by have := hkvb g hg; omega, Nat.lt_of_lt_of_le (hcs.lt g hg).2 hgw'.size⟩
       have hxf : Fresh w w' xb := ⟨by omega, Nat.lt_of_lt_of_le hxlt hgw'.size⟩
       rcases HMK.out with ⟨rfl, rfl⟩ | ⟨rfl, rfl⟩
       ·exact ⟨xb, _, vs, rfl, hxf, by rw [← hwq.out]; exact hx', hq13, by rw [hvlen, hNe]; exact hjN, hcs', hkg, hds'⟩
       ·exact ⟨xb, _, vs, rfl, hxf, by rw [← hwq.out]; exact hx', hq13, by rw [hvlen, hNe]; exact hjN, hcs', hkg, hds'⟩
     ·rw [h1] at hb; cases hb
    ·refine ⟨xb, k', true, rfl, hkk, hk', h5, hgw, Or.inr ⟨rfl, ?_⟩⟩
     rcases hinv.out with ⟨hbf, ts, _, _, hGGe⟩ | ⟨_, h⟩
     ·have hjN : j = N := by
       rcases hje with h | h
       ·exact h
       ·rw [hbf] at h; cases h
      rcases h1 with h1 | h1
      ·rw [hbf] at h1; cases h1
      ·rw [hGGe, hjN, Nat.sub_self]
       simp [Code.kidsP, h1]
     ·exact h)
   by_cases hlt : j < N
   ·have hjl : (j : Int) < (N : Int) := by omega
    cases bad' with
    | true =>
     have HEND := hend (Or.inr rfl)
     clear hend hinv
     go_wp2_with fail
     refine (HMUST.out).mono ?_
     rintro en w4 ⟨hg4, rfl, hcase⟩
     have HC := hide hcase
     clear hcase
     go_wp2
     go_ret
     exact HEND.out _ _ ⟨grown_trans hgr hg4, hg4, HC.out⟩ rfl
    | false =>
     have HM2 := hide (must_any sb s [32] k' false wr hr hk' hs (by simp))
     clear hend HMUST
     go_wp2_with fail
     refine (HM2.out).mono ?_
     rintro en w4 ⟨hg4, rfl, hcase⟩
     obtain ⟨k4, bad4, hk44, hk4, hr4, HC4⟩ : ∃ (k4 : Nat) (bad4 : Bool), k' ≤ k4 ∧ k4 ≤ s.length ∧ ScanR w4 sb s k4 bad4 ∧ Hid ((bad4 = false ∧ Code.cut [32] (s.drop k') = some (s.drop k4)) ∨ (bad4 = true ∧ Code.cut [32] (s.drop k') = none)) := by
      rcases hcase with ⟨r, _, h2, h3, h4, h5⟩ | ⟨h1, h5⟩
      ·exact ⟨k' + 1, false, by omega, h4, h5, Or.inl ⟨rfl, by rw [h2, ← h3]; rfl⟩⟩
      ·rcases h1 with h1 | h1
       ·cases h1
       ·exact ⟨k', true, Nat.le_refl _, hk', h5, Or.inr ⟨rfl, h1⟩⟩
     have hx4 : w4.heap[xb]? = some (.cells #[.int .u8 (kd : Nat), .string (bs ww), .int .i64 0, .slice kp vs.length kc] 135) := kept_block hx hg4 (fun h => hsx h.symm)
     have hcs4 : w4.ownsRow 0 67 1 (.slice kp vs.length kc) vs.length vs := own_kept hr hg4 hcs (by decide)
     have hgr4 := grown_trans hgr hg4
     have hz4 := hg4.size
     have hzw := hgr4.size
     have hstep : ∀ (w5 : World) (b5 k5 : Nat) (bad5 : Bool), w4.drew.grownBy w5 (some sb) → ScanR w5 sb s k5 bad5 →
       Hid ((bad5 = false ∧ ∃ t, gate bad4 (Code.treeQ result e (s.drop k4)) = some (t, s.drop k5) ∧ RepD w5 (Fresh w4.drew w5) (.pointer (some ⟨b5, 0, none⟩)) t) ∨ (bad5 = true ∧ gate bad4 (Code.treeQ result e (s.drop k4)) = none)) →
       Hid (∀ (gw cw : Nat) (w10 : World), ((Value.slice kp vs.length kc).ownBlock = some gw ∨ gw = (w5.alloc (.cells #[.pointer (some ⟨b5, 0, none⟩)] 67)).heap.size) → (w5.alloc (.cells #[.pointer (some ⟨b5, 0, none⟩)] 67)).grownBy w10 (Value.slice kp vs.length kc).ownBlock →
        KidsInv GG (Code.treeQ result e) (mk q) s w (w10.setCell ⟨xb, 3, none⟩ (.slice (some ⟨gw, 0, none⟩) (vs.length + 1) cw)) xb (.slice (some ⟨gw, 0, none⟩) (vs.length + 1) cw) (vs ++ [.pointer (some ⟨b5, 0, none⟩)]) N (j + 1) k5 bad5) ∧
       Hid (∀ w10 : World, (w5.alloc (.cells #[.pointer (some ⟨b5, 0, none⟩)] 67)).grownBy w10 (Value.slice kp vs.length kc).ownBlock → w.grownBy w10 (some sb)) := fun w5 b5 k5 bad5 hg5 hr5 HD5 => by
      have hz5 : w4.heap.size ≤ w5.heap.size := hg5.size
      have hkvlt : ∀ g, (Value.slice kp vs.length kc).ownBlock = some g → xb < g ∧ g < w4.heap.size := fun g hg => ⟨hkvb g hg, (hcs4.lt g hg).2⟩
      refine ⟨hide ?_, hide ?_⟩
      ·intro gw cw w10 hgw hg10
       have hz10 : w5.heap.size + 1 ≤ w10.heap.size := by have := hg10.size; simpa using this
       rcases HD5.out with ⟨hb5, t, ht, hrep⟩ | ⟨hb5, hn⟩
       ·have hb4 : bad4 = false := by
         cases bad4 with
         | false => rfl
         | true => cases ht
        subst hb4
        have ht' : Code.treeQ result e (s.drop k4) = some (t, s.drop k5) := ht
        rcases HC4.out with ⟨_, hc⟩ | ⟨h, _⟩
        ·rcases hinv.out with ⟨_, ts, hvlen, hds, hGGe⟩ | ⟨h, _⟩
         ·have hI : ∀ b, Kid w wr xb (.slice kp vs.length kc) b → Kid w (w10.setCell ⟨xb, 3, none⟩ (.slice (some ⟨gw, 0, none⟩) (vs.length + 1) cw)) xb (.slice (some ⟨gw, 0, none⟩) (vs.length + 1) cw) b := fun b hb => by
           obtain ⟨h1, h2, h3, h4⟩ := hb
           refine ⟨h1, by rw [size_set]; omega, h3, fun hc => ?_⟩
           have hgb : gw = b := by simpa [Value.ownBlock] using hc
           subst hgb
           rcases hgw with h | h
           ·exact h4 h
           ·simp at h; omega
          have hI5 : ∀ b, Fresh w4.drew w5 b → Kid w (w10.setCell ⟨xb, 3, none⟩ (.slice (some ⟨gw, 0, none⟩) (vs.length + 1) cw)) xb (.slice (some ⟨gw, 0, none⟩) (vs.length + 1) cw) b := fun b hb => by
           have h1 : w4.heap.size ≤ b := hb.1
           have h2 := hb.2
           refine ⟨by omega, by rw [size_set]; omega, by omega, fun hc => ?_⟩
           have hgb : gw = b := by simpa [Value.ownBlock] using hc
           subst hgb
           rcases hgw with h | h
           ·have := (hkvlt _ h).2; omega
           ·simp at h; omega
          have hKa : ∀ I : Nat → Prop, (∀ b, I b → b ≠ xb ∧ (Value.slice kp vs.length kc).ownBlock ≠ some b) → KeepsD w5 (w10.setCell ⟨xb, 3, none⟩ (.slice (some ⟨gw, 0, none⟩) (vs.length + 1) cw)) I := fun I hI b C T z hc hT hIb => by
           obtain ⟨h1, h2⟩ := hI b hIb
           refine stay_set ?_ h1
           have h3 := stay_alloc (p := .cells #[.pointer (some ⟨b5, 0, none⟩)] 67) hc
           rw [hg10.block b (lt_of_block h3) (fun h => h2 h.symm)]
           exact h3
          have hds5 : RepDs w5 (Kid w wr xb (.slice kp vs.length kc)) vs ts := RepDs.kept (keepsD_grown (w := w4.drew) hr4 hg5) (fun _ h => h) ts vs (RepDs.kept (w := w4) (w' := w4.drew) (fun _ _ _ _ hc _ _ => hc) (fun _ h => h) ts vs (RepDs.kept (keepsD_grown hr hg4) (fun _ h => h) ts vs hds))
          refine Or.inl ⟨hb5, ts ++ [t], by simp [hvlen], RepDs.snoc ?_ ?_, ?_⟩
          ·exact RepDs.kept (hKa _ (fun b hb => ⟨hb.2.2.1, hb.2.2.2⟩)) hI ts vs hds5
          ·refine RepD.kept (hKa _ (fun b hb => ⟨by have h1 : w4.heap.size ≤ b := hb.1; omega, fun hc => by have h1 : w4.heap.size ≤ b := hb.1; have := (hkvlt _ hc).2; omega⟩)) hI5 t _ hrep
          ·rw [hGGe, show N - j = (N - (j + 1)) + 1 by omega]
           simp only [Code.kidsP, hc, ht', Option.bind_some]
           cases Code.kidsP (Code.treeQ result e) (N - (j + 1)) (s.drop k5) with
           | none => rfl
           | some p => simp
         ·cases h
        ·cases h
       ·refine Or.inr ⟨hb5, ?_⟩
        rcases hinv.out with ⟨_, ts, hvlen, hds, hGGe⟩ | ⟨h, _⟩
        ·rw [hGGe, show N - j = (N - (j + 1)) + 1 by omega]
         simp only [Code.kidsP]
         rcases HC4.out with ⟨hb4, hc⟩ | ⟨hb4, hc⟩
         ·subst hb4
          have hn' : Code.treeQ result e (s.drop k4) = none := hn
          rw [hc]
          simp only [Option.bind_some]
          rw [hn']
          rfl
         ·rw [hc]; rfl
        ·cases h
      ·intro w10 hg10
       have h5 : w.grownBy w5 (some sb) := grown_trans hgr4 ⟨hg5.os, hg5.tape, hg5.output, hg5.size, hg5.block⟩
       exact grown_app h5 hg10 (fun g hg => by have := (hkvlt g hg).1; omega)
     have HSTEP := hide hstep
     clear hstep hcase hinv hr hx hcs
     go_wp2_with fail
     have hr4d : ScanR w4.drew sb s k4 bad4 := hr4
     have hx4d : w4.drew.heap[xb]? = some (.cells #[.int .u8 (kd : Nat), .string (bs ww), .int .i64 0, .slice kp vs.length kc] 135) := hx4
     have hcs4d : w4.drew.ownsRow 0 67 1 (.slice kp vs.length kc) vs.length vs := hcs4
     refine wp_region_held_drew (S := fun _ => True) (by kernel_rfl) trivial (fun hHeld => ?_)
     generalize w4.drew = wd at hr4d hx4d hcs4d HSTEP ⊢
     have q0 := blk_cell hx4d 3 _ rfl
     have hxld := lt_of_block hx4d
     clear hHeld
     refine wpAnyH_take (i := 0) (v := .pointer (some ⟨xb, 0, none⟩)) rfl (by kernel_rfl) (by kernel_rfl) (by kernel_rfl) (fun _ _ _ h => h) (Or.inl ⟨by rfl, fun w' h => by  go_simp⟩) trivial ?_
     try simp only [Act.put, z1, z2, z4, z5, z6]
     refine wpAnyH_take (i := 1) (v := .pointer (some ⟨xb, 0, none⟩)) rfl (by kernel_rfl) (by kernel_rfl) (by kernel_rfl) (fun _ _ _ h => h) (Or.inl ⟨by rfl, fun w' h => by  go_simp⟩) trivial ?_
     try simp only [Act.put, z1, z2, z3, z4, z5, z6]
     refine wpAnyH_take (i := 2) (v := .pointer (some ⟨xb, 0, none⟩)) rfl (by kernel_rfl) (by kernel_rfl) (by kernel_rfl) (fun _ _ _ h => h) (Or.inl ⟨by rfl, fun w' h => by  go_simp⟩) trivial ?_
     try simp only [Act.put, z1, z2, z3, z4, z5, z6]
     refine wpAnyH_take (i := 3) (v := .pointer (some ⟨xb, 3, none⟩)) rfl (by kernel_rfl) (by kernel_rfl) (by kernel_rfl) (fun _ _ _ h => h) (Or.inl ⟨by rfl, fun w' h => by  go_simp⟩) trivial ?_
     try simp only [Act.put, z1, z2, z3, z4, z5, z6]
     refine wpAnyH_take (i := 5) (v := .pointer (some ⟨sb, 0, none⟩)) rfl (by kernel_rfl) (by kernel_rfl) (by kernel_rfl) (fun _ _ _ h => h) (Or.inl ⟨by rfl, fun w' h => by  go_simp⟩) trivial ?_
     try simp only [Act.put, z1, z2, z3, z4, z5, z6]
     refine wpAnyH_take (i := 6) (v := .bool result) rfl (by kernel_rfl) (by kernel_rfl) (by kernel_rfl) (fun _ _ _ h => h) (Or.inl ⟨by rfl, fun w' h => by  go_simp⟩) trivial ?_
     try simp only [Act.put, z1, z2, z3, z4, z5, z6]
     refine wpAnyH_ready (rs := [4, 7]) (by kernel_rfl) (by simp) ?_
     refine AllReadyH.cons rfl (fun K hK => ?_) (AllReadyH.cons rfl (fun K hK => ?_) AllReadyH.nil)
     case refine_1 =>
      rw [if_pos (by rfl)]
      go_wp2_with fail
      refine hK.out _ _ trivial (fun hHeld => ?_)
      clear hK K
      try simp only [Act.put, z1, z2, z3, z4, z5, z6]
      clear q0
      refine wpAnyH_ready (rs := [7]) (by kernel_rfl) (by simp) ?_
      refine AllReadyH.cons rfl (fun K hK => ?_) AllReadyH.nil
      rw [if_pos (by rfl)]
      go_wp2_with fail
      refine (HTC.out result sb s k4 bad4 wd hr4d hk4 (by omega) hs).mono ?_
      rintro en w5 ⟨b5, k5, bad5, rfl, hk45, hk5, hr5, hg5, HD5⟩
      have hx5 : w5.heap[xb]? = some (.cells #[.int .u8 (kd : Nat), .string (bs ww), .int .i64 0, .slice kp vs.length kc] 135) := kept_block hx4d hg5 (fun h => hsx h.symm)
      have hcsB : w5.ownsRow 0 67 1 (.slice kp vs.length kc) vs.length vs := own_kept hr4d hg5 hcs4d (by decide)
      have hz5 := hg5.size
      obtain ⟨HNEXT, HGR⟩ := HSTEP.out w5 b5 k5 bad5 hg5 hr5 HD5
      have hxl5 := lt_of_block hx5
      clear HD5
      refine hK.out _ _ trivial (fun hHeld => ?_)
      clear hK K
      try simp only [Act.put, z1, z2, z3, z4, z5, z6]
      refine wpAnyH_ready (rs := [8]) (by kernel_rfl) (by simp) ?_
      refine AllReadyH.cons rfl (fun K hK => ?_) AllReadyH.nil
      rw [if_pos (by rfl)]
      go_wp2_with fail
      refine hK.out _ _ trivial (fun hHeld => ?_)
      clear hK K
      try simp only [Act.put, z1, z2, z3, z4, z5, z6]
      refine wpAnyH_ready (rs := [9]) (by kernel_rfl) (by simp) ?_
      refine AllReadyH.cons rfl (fun K hK => ?_) AllReadyH.nil
      rw [if_pos (by rfl)]
      refine wp_append_lies _ _ _ 133 rfl 0 67 ib (.pointer none) 1 8 Tryz.underlying133 hib jb0 jb1 jb2 rfl (by decide) (.slice kp vs.length kc) vs.length vs rfl (hcsB.alloc _) ⟨_, 0, none⟩ 1 1 [.pointer (some ⟨b5, 0, none⟩)] rfl rfl (cells_at _ _ _ _ (by simp)) (fun x hx => by simp at hx; subst hx; rfl) (by decide) (by unfold maxLen; omega) (by omega) (Nat.zero_le _) _ rfl ?_
      intro gw cw w10 hown10 hgrow10x hgw hgwl
      have hgrow10 : (w5.alloc (.cells #[.pointer (some ⟨b5, 0, none⟩)] 67)).grownBy w10 (Value.slice kp vs.length kc).ownBlock := hgrow10x
      clear hgrow10x
      have hx10 : w10.heap[xb]? = some (.cells #[.int .u8 (kd : Nat), .string (bs ww), .int .i64 0, .slice kp vs.length kc] 135) := stay_grown (hcsB.alloc _) hgrow10 (stay_alloc hx5) (by decide)
      have hr10 : ScanR w10 sb s k5 bad5 := stay_grown (hcsB.alloc _) hgrow10 (stay_alloc hr5) (by decide)
      have HINV : Hid (KidsInv GG (Code.treeQ result e) (mk q) s w (w10.setCell ⟨xb, 3, none⟩ (.slice (some ⟨gw, 0, none⟩) (vs.length + 1) cw)) xb (.slice (some ⟨gw, 0, none⟩) (vs.length + 1) cw) (vs ++ [.pointer (some ⟨b5, 0, none⟩)]) N (j + 1) k5 bad5) := hide (HNEXT.out gw cw w10 hgw hgrow10)
      have hg10 : w.grownBy w10 (some sb) := HGR.out w10 hgrow10
      refine hK.out _ _ trivial (fun hHeld => ?_)
      clear hK K
      try simp only [Act.put, z1, z2, z3, z4, z5, z6]
      refine wpAnyH_take (i := 10) (v := .pointer (some ⟨xb, 0, none⟩)) rfl (by kernel_rfl) (by kernel_rfl) (by kernel_rfl) (fun _ _ _ h => h) (Or.inl ⟨by rfl, fun w' h => by  go_simp⟩) trivial ?_
      try simp only [Act.put, z1, z2, z3, z4, z5, z6]
      refine wpAnyH_take (i := 11) (v := .pointer (some ⟨xb, 3, none⟩)) rfl (by kernel_rfl) (by kernel_rfl) (by kernel_rfl) (fun _ _ _ h => h) (Or.inl ⟨by rfl, fun w' h => by  go_simp⟩) trivial ?_
      try simp only [Act.put, z1, z2, z3, z4, z5, z6]
      have q1 := blk_cell hx10 3 _ rfl
      have q2 := blk_froz hx10 3
      refine wpAnyH_ready (rs := [12]) (by kernel_rfl) (by simp) ?_
      refine AllReadyH.cons rfl (fun K hK => ?_) AllReadyH.nil
      rw [if_pos (by rfl)]
      go_wp2_with fail
      refine hK.out _ _ trivial (fun hHeld => ?_)
      clear hK K
      try simp only [Act.put, z1, z2, z3, z4, z5, z6]
      refine wpAnyH_done (by kernel_rfl) ?_ _
      have hxlt := lt_of_block hx10
      clear q1 q2 hgrow10 HNEXT HGR
      go_wp2
      refine ⟨⟨j + 1, k5, bad5, .slice (some ⟨gw, 0, none⟩) (vs.length + 1) cw, vs ++ [.pointer (some ⟨b5, 0, none⟩)], by omega, by go_num, stay_set hr10 hsx, by omega, hk5, grown_new hg10 (by omega) _ _, set_block hx10, ?_, ?_, by simp; omega, HINV⟩, by simp [intOf]; omega⟩
      ·rw [List.length_append]; exact own_set hown10 hx10 (by decide)
      ·intro g' hg'
       have e' : gw = g' := by simpa [Value.ownBlock] using hg'
       subst e'
       rcases hgw with h | h
       ·exact hkvb _ h
       ·simp at h; omega
     case refine_2 =>
      rw [if_pos (by rfl)]
      go_wp2_with fail
      refine (HTC.out result sb s k4 bad4 wd hr4d hk4 (by omega) hs).mono ?_
      rintro en w5 ⟨b5, k5, bad5, rfl, hk45, hk5, hr5, hg5, HD5⟩
      have hx5 : w5.heap[xb]? = some (.cells #[.int .u8 (kd : Nat), .string (bs ww), .int .i64 0, .slice kp vs.length kc] 135) := kept_block hx4d hg5 (fun h => hsx h.symm)
      have hcsB : w5.ownsRow 0 67 1 (.slice kp vs.length kc) vs.length vs := own_kept hr4d hg5 hcs4d (by decide)
      have hz5 := hg5.size
      obtain ⟨HNEXT, HGR⟩ := HSTEP.out w5 b5 k5 bad5 hg5 hr5 HD5
      have hxl5 := lt_of_block hx5
      clear HD5
      refine hK.out _ _ trivial (fun hHeld => ?_)
      clear hK K
      try simp only [Act.put, z1, z2, z3, z4, z5, z6]
      clear q0
      have q0 := blk_cell hx5 3 _ rfl
      refine wpAnyH_ready (rs := [4, 8]) (by kernel_rfl) (by simp) ?_
      refine AllReadyH.cons rfl (fun K hK => ?_) (AllReadyH.cons rfl (fun K hK => ?_) AllReadyH.nil)
      case refine_1 =>
       rw [if_pos (by rfl)]
       go_wp2_with fail
       refine hK.out _ _ trivial (fun hHeld => ?_)
       clear hK K
       try simp only [Act.put, z1, z2, z3, z4, z5, z6]
       clear q0
       refine wpAnyH_ready (rs := [8]) (by kernel_rfl) (by simp) ?_
       refine AllReadyH.cons rfl (fun K hK => ?_) AllReadyH.nil
       rw [if_pos (by rfl)]
       go_wp2_with fail
       refine hK.out _ _ trivial (fun hHeld => ?_)
       clear hK K
       try simp only [Act.put, z1, z2, z3, z4, z5, z6]
       refine wpAnyH_ready (rs := [9]) (by kernel_rfl) (by simp) ?_
       refine AllReadyH.cons rfl (fun K hK => ?_) AllReadyH.nil
       rw [if_pos (by rfl)]
       refine wp_append_lies _ _ _ 133 rfl 0 67 ib (.pointer none) 1 8 Tryz.underlying133 hib jb0 jb1 jb2 rfl (by decide) (.slice kp vs.length kc) vs.length vs rfl (hcsB.alloc _) ⟨_, 0, none⟩ 1 1 [.pointer (some ⟨b5, 0, none⟩)] rfl rfl (cells_at _ _ _ _ (by simp)) (fun x hx => by simp at hx; subst hx; rfl) (by decide) (by unfold maxLen; omega) (by omega) (Nat.zero_le _) _ rfl ?_
       intro gw cw w10 hown10 hgrow10x hgw hgwl
       have hgrow10 : (w5.alloc (.cells #[.pointer (some ⟨b5, 0, none⟩)] 67)).grownBy w10 (Value.slice kp vs.length kc).ownBlock := hgrow10x
       clear hgrow10x
       have hx10 : w10.heap[xb]? = some (.cells #[.int .u8 (kd : Nat), .string (bs ww), .int .i64 0, .slice kp vs.length kc] 135) := stay_grown (hcsB.alloc _) hgrow10 (stay_alloc hx5) (by decide)
       have hr10 : ScanR w10 sb s k5 bad5 := stay_grown (hcsB.alloc _) hgrow10 (stay_alloc hr5) (by decide)
       have HINV : Hid (KidsInv GG (Code.treeQ result e) (mk q) s w (w10.setCell ⟨xb, 3, none⟩ (.slice (some ⟨gw, 0, none⟩) (vs.length + 1) cw)) xb (.slice (some ⟨gw, 0, none⟩) (vs.length + 1) cw) (vs ++ [.pointer (some ⟨b5, 0, none⟩)]) N (j + 1) k5 bad5) := hide (HNEXT.out gw cw w10 hgw hgrow10)
       have hg10 : w.grownBy w10 (some sb) := HGR.out w10 hgrow10
       refine hK.out _ _ trivial (fun hHeld => ?_)
       clear hK K
       try simp only [Act.put, z1, z2, z3, z4, z5, z6]
       refine wpAnyH_take (i := 10) (v := .pointer (some ⟨xb, 0, none⟩)) rfl (by kernel_rfl) (by kernel_rfl) (by kernel_rfl) (fun _ _ _ h => h) (Or.inl ⟨by rfl, fun w' h => by  go_simp⟩) trivial ?_
       try simp only [Act.put, z1, z2, z3, z4, z5, z6]
       refine wpAnyH_take (i := 11) (v := .pointer (some ⟨xb, 3, none⟩)) rfl (by kernel_rfl) (by kernel_rfl) (by kernel_rfl) (fun _ _ _ h => h) (Or.inl ⟨by rfl, fun w' h => by  go_simp⟩) trivial ?_
       try simp only [Act.put, z1, z2, z3, z4, z5, z6]
       have q1 := blk_cell hx10 3 _ rfl
       have q2 := blk_froz hx10 3
       refine wpAnyH_ready (rs := [12]) (by kernel_rfl) (by simp) ?_
       refine AllReadyH.cons rfl (fun K hK => ?_) AllReadyH.nil
       rw [if_pos (by rfl)]
       go_wp2_with fail
       refine hK.out _ _ trivial (fun hHeld => ?_)
       clear hK K
       try simp only [Act.put, z1, z2, z3, z4, z5, z6]
       refine wpAnyH_done (by kernel_rfl) ?_ _
       have hxlt := lt_of_block hx10
       clear q1 q2 hgrow10 HNEXT HGR
       go_wp2
       refine ⟨⟨j + 1, k5, bad5, .slice (some ⟨gw, 0, none⟩) (vs.length + 1) cw, vs ++ [.pointer (some ⟨b5, 0, none⟩)], by omega, by go_num, stay_set hr10 hsx, by omega, hk5, grown_new hg10 (by omega) _ _, set_block hx10, ?_, ?_, by simp; omega, HINV⟩, by simp [intOf]; omega⟩
       ·rw [List.length_append]; exact own_set hown10 hx10 (by decide)
       ·intro g' hg'
        have e' : gw = g' := by simpa [Value.ownBlock] using hg'
        subst e'
        rcases hgw with h | h
        ·exact hkvb _ h
        ·simp at h; omega
      case refine_2 =>
       rw [if_pos (by rfl)]
       go_wp2_with fail
       refine hK.out _ _ trivial (fun hHeld => ?_)
       clear hK K
       try simp only [Act.put, z1, z2, z3, z4, z5, z6]
       refine wpAnyH_ready (rs := [4]) (by kernel_rfl) (by simp) ?_
       refine AllReadyH.cons rfl (fun K hK => ?_) AllReadyH.nil
       rw [if_pos (by rfl)]
       go_wp2_with fail
       refine hK.out _ _ trivial (fun hHeld => ?_)
       clear hK K
       try simp only [Act.put, z1, z2, z3, z4, z5, z6]
       clear q0
       refine wpAnyH_ready (rs := [9]) (by kernel_rfl) (by simp) ?_
       refine AllReadyH.cons rfl (fun K hK => ?_) AllReadyH.nil
       rw [if_pos (by rfl)]
       refine wp_append_lies _ _ _ 133 rfl 0 67 ib (.pointer none) 1 8 Tryz.underlying133 hib jb0 jb1 jb2 rfl (by decide) (.slice kp vs.length kc) vs.length vs rfl (hcsB.alloc _) ⟨_, 0, none⟩ 1 1 [.pointer (some ⟨b5, 0, none⟩)] rfl rfl (cells_at _ _ _ _ (by simp)) (fun x hx => by simp at hx; subst hx; rfl) (by decide) (by unfold maxLen; omega) (by omega) (Nat.zero_le _) _ rfl ?_
       intro gw cw w10 hown10 hgrow10x hgw hgwl
       have hgrow10 : (w5.alloc (.cells #[.pointer (some ⟨b5, 0, none⟩)] 67)).grownBy w10 (Value.slice kp vs.length kc).ownBlock := hgrow10x
       clear hgrow10x
       have hx10 : w10.heap[xb]? = some (.cells #[.int .u8 (kd : Nat), .string (bs ww), .int .i64 0, .slice kp vs.length kc] 135) := stay_grown (hcsB.alloc _) hgrow10 (stay_alloc hx5) (by decide)
       have hr10 : ScanR w10 sb s k5 bad5 := stay_grown (hcsB.alloc _) hgrow10 (stay_alloc hr5) (by decide)
       have HINV : Hid (KidsInv GG (Code.treeQ result e) (mk q) s w (w10.setCell ⟨xb, 3, none⟩ (.slice (some ⟨gw, 0, none⟩) (vs.length + 1) cw)) xb (.slice (some ⟨gw, 0, none⟩) (vs.length + 1) cw) (vs ++ [.pointer (some ⟨b5, 0, none⟩)]) N (j + 1) k5 bad5) := hide (HNEXT.out gw cw w10 hgw hgrow10)
       have hg10 : w.grownBy w10 (some sb) := HGR.out w10 hgrow10
       refine hK.out _ _ trivial (fun hHeld => ?_)
       clear hK K
       try simp only [Act.put, z1, z2, z3, z4, z5, z6]
       refine wpAnyH_take (i := 10) (v := .pointer (some ⟨xb, 0, none⟩)) rfl (by kernel_rfl) (by kernel_rfl) (by kernel_rfl) (fun _ _ _ h => h) (Or.inl ⟨by rfl, fun w' h => by  go_simp⟩) trivial ?_
       try simp only [Act.put, z1, z2, z3, z4, z5, z6]
       refine wpAnyH_take (i := 11) (v := .pointer (some ⟨xb, 3, none⟩)) rfl (by kernel_rfl) (by kernel_rfl) (by kernel_rfl) (fun _ _ _ h => h) (Or.inl ⟨by rfl, fun w' h => by  go_simp⟩) trivial ?_
       try simp only [Act.put, z1, z2, z3, z4, z5, z6]
       have q1 := blk_cell hx10 3 _ rfl
       have q2 := blk_froz hx10 3
       refine wpAnyH_ready (rs := [12]) (by kernel_rfl) (by simp) ?_
       refine AllReadyH.cons rfl (fun K hK => ?_) AllReadyH.nil
       rw [if_pos (by rfl)]
       go_wp2_with fail
       refine hK.out _ _ trivial (fun hHeld => ?_)
       clear hK K
       try simp only [Act.put, z1, z2, z3, z4, z5, z6]
       refine wpAnyH_done (by kernel_rfl) ?_ _
       have hxlt := lt_of_block hx10
       clear q1 q2 hgrow10 HNEXT HGR
       go_wp2
       refine ⟨⟨j + 1, k5, bad5, .slice (some ⟨gw, 0, none⟩) (vs.length + 1) cw, vs ++ [.pointer (some ⟨b5, 0, none⟩)], by omega, by go_num, stay_set hr10 hsx, by omega, hk5, grown_new hg10 (by omega) _ _, set_block hx10, ?_, ?_, by simp; omega, HINV⟩, by simp [intOf]; omega⟩
       ·rw [List.length_append]; exact own_set hown10 hx10 (by decide)
       ·intro g' hg'
        have e' : gw = g' := by simpa [Value.ownBlock] using hg'
        subst e'
        rcases hgw with h | h
        ·exact hkvb _ h
        ·simp at h; omega
   ·have HEND := hend (Or.inl (by omega))
    have hjl : ¬ (j : Int) < (N : Int) := by omega
    clear hend hinv
    go_wp2_with fail
    refine (HMUST.out).mono ?_
    rintro en w4 ⟨hg4, rfl, hcase⟩
    have HC := hide hcase
    clear hcase
    go_wp2
    go_ret
    exact HEND.out _ _ ⟨grown_trans hgr hg4, hg4, HC.out⟩ rfl
theorem TPost.from {o : Option (RTree × List UInt8)} {s : List UInt8} {k0 k1 sb : Nat} {w w1 w' : World} {e : Ending} (hk : k0 ≤ k1) (hg : w.grownBy w1 (some sb)) (h : TPost o s k1 sb w1 e w') : TPost o s k0 sb w e w' := by
 obtain ⟨b, k, bad, h1, h2, h3, h4, h5, h6⟩ := h
 refine ⟨b, k, bad, h1, by omega, h3, h4, grown_trans hg h5, ?_⟩
 rcases h6.out with ⟨h7, t, h8, h9⟩ | h7
 ·exact Or.inl ⟨h7, t, h8, RepD.kept (keepsD_refl _ _) (fun b hb => ⟨Nat.le_trans hg.size hb.1, hb.2⟩) t _ h9⟩
 ·exact Or.inr h7
set_option maxRecDepth 100000 in
set_option maxHeartbeats 4000000 in
theorem tree_op (e : Nat) (hI : InnerC e) (result : Bool) (sb : Nat) (s : List UInt8) (k : Nat) (w : World) (hsc : ScanR w sb s k false) (hk : k ≤ s.length) (hke : s.length - k ≤ e + 1) (hs : s.length ≤ 3000) (r : List UInt8) (h40 : Code.cut [40] (s.drop k) = some r) :
  Calls Tryz.prog 63 #[.pointer (some ⟨sb, 0, none⟩), .bool result] w fun en w' => TPost (Code.innerP (Code.treeQ result e) .op r) s k sb w en w' := by
 have his : Calls Tryz.prog 104 #[.pointer (some ⟨sb, 0, none⟩), .string (bs [40])] w fun e w' => w.grownBy w' (some sb) ∧ e = .returned (.bool true) ∧ ScanR w' sb s (k + 1) false ∧ k + 1 ≤ s.length ∧ s.drop (k + 1) = r := by
  refine (is_any sb s [40] k false w hsc hk hs (by simp)).mono ?_
  rintro e w' ⟨hg, ⟨r', _, h2, h3, h4, h5, h6⟩ | ⟨h1, _⟩⟩
  ·rw [h40] at h2
   exact ⟨hg, h5, h6, h4, by rw [Option.some.inj h2]; exact h3⟩
  ·rcases h1 with h1 | h1
   ·cases h1
   ·rw [h40] at h1; cases h1
 have HIS := hide his
 have HI := hide hI
 clear his hI h40
 go_enter Tryz.func63, Tryz.ntmps63
 go_wp2_with fail
 refine (HIS.out).mono ?_
 rintro en w1 ⟨hg1, rfl, hr1, hk1, hd1⟩
 have HD1 := hide hd1
 clear hd1
 go_wp2_with fail
 refine (HI.out 111 .op (Or.inl ⟨rfl, rfl⟩) result sb s (k + 1) false w1 hr1 hk1 (by omega) hs).mono ?_
 intro en w2 hp
 have HP := hide (TPost.from (Nat.le_succ k) hg1 hp)
 obtain ⟨b, k2, bad2, rfl, _⟩ := hp
 rw [HD1.out] at HP
 go_wp2
 go_ret
 exact HP.out
set_option maxRecDepth 100000 in
set_option maxHeartbeats 4000000 in
theorem tree_fold (e : Nat) (hI : InnerC e) (sb : Nat) (s : List UInt8) (k : Nat) (w : World) (hsc : ScanR w sb s k false) (hk : k ≤ s.length) (hke : s.length - k ≤ e + 1) (hs : s.length ≤ 3000) (r : List UInt8) (h40 : Code.cut [40] (s.drop k) = none) (h33 : Code.cut [33, 40] (s.drop k) = some r) :
  Calls Tryz.prog 63 #[.pointer (some ⟨sb, 0, none⟩), .bool true] w fun en w' => TPost (Code.innerP (Code.treeQ true e) .fold r) s k sb w en w' := by
 have his0 : Calls Tryz.prog 104 #[.pointer (some ⟨sb, 0, none⟩), .string (bs [40])] w fun e w' => w.grownBy w' (some sb) ∧ e = .returned (.bool false) ∧ ScanR w' sb s k false := by
  refine (is_any sb s [40] k false w hsc hk hs (by simp)).mono ?_
  rintro e w' ⟨hg, ⟨r', _, h2, _⟩ | ⟨_, h5, h6⟩⟩
  ·rw [h40] at h2; cases h2
  ·exact ⟨hg, h5, h6⟩
 have his : ∀ w, ScanR w sb s k false → Calls Tryz.prog 104 #[.pointer (some ⟨sb, 0, none⟩), .string (bs [33, 40])] w fun e w' => w.grownBy w' (some sb) ∧ e = .returned (.bool true) ∧ ScanR w' sb s (k + 2) false ∧ k + 2 ≤ s.length ∧ s.drop (k + 2) = r := fun w hsc => by
  refine (is_any sb s [33, 40] k false w hsc hk hs (by simp)).mono ?_
  rintro e w' ⟨hg, ⟨r', _, h2, h3, h4, h5, h6⟩ | ⟨h1, _⟩⟩
  ·rw [h33] at h2
   exact ⟨hg, h5, h6, h4, by rw [Option.some.inj h2]; exact h3⟩
  ·rcases h1 with h1 | h1
   ·cases h1
   ·rw [h33] at h1; cases h1
 have HIS := hide his
 have HIS0 := hide his0
 have HI := hide hI
 clear his his0 hI h40 h33
 go_enter Tryz.func63, Tryz.ntmps63
 go_wp2_with fail
 refine (HIS0.out).mono ?_
 rintro en w0 ⟨hg0, rfl, hr0⟩
 go_wp2_with fail
 refine (HIS.out w0 hr0).mono ?_
 rintro en w1 ⟨hg1, rfl, hr1, hk1, hd1⟩
 have HD1 := hide hd1
 clear hd1
 go_wp2_with fail
 refine (HI.out 33 .fold (Or.inr ⟨rfl, rfl⟩) true sb s (k + 2) false w1 hr1 hk1 (by omega) hs).mono ?_
 intro en w2 hp
 have HP := hide (TPost.from (Nat.le_add_right k 2) (grown_trans hg0 hg1) hp)
 obtain ⟨b, k2, bad2, rfl, _⟩ := hp
 rw [HD1.out] at HP
 go_wp2
 go_ret
 exact HP.out
theorem hash_gate {s r : List UInt8} {k : Nat} (h35 : Code.cut [35] (s.drop k) = some r) (hr : s.drop (k + 1) = r) (hk : k + 1 ≤ s.length) {w w2 : World} {b sb : Nat} (hx : w2.heap[b]? = some (.cells #[.int .u8 35, .string (bs (Code.word (s.drop (k + 1)))), .int .i64 0, .slice none 0 0] 135)) (hb : w.heap.size ≤ b) (hg : w.grownBy w2 (some sb)) (hsc : ScanR w2 sb s (k + 1 + (Code.word (s.drop (k + 1))).length) (false || (Code.nameP (s.drop (k + 1))).isNone)) :
  TPost (Code.atomQ (s.drop k)) s k sb w (.returned (.pointer (some ⟨b, 0, none⟩))) w2 := by
 obtain ⟨h1, h2⟩ := word_at s (k + 1) hk
 refine ⟨b, _, _, rfl, by omega, h1, hsc, hg, ?_⟩
 have e := Code.atomQ_hash h35
 rw [← hr] at e
 cases hnp : Code.nameP (s.drop (k + 1)) with
 | none => exact Or.inr ⟨rfl, by rw [e, hnp]; rfl⟩
 | some p =>
  have hp : p = (Code.word (s.drop (k + 1)), Code.behind (s.drop (k + 1))) := by
   unfold Code.nameP at hnp
   split at hnp
   ·cases hnp
   ·exact (Option.some.inj hnp).symm
  refine Or.inl ⟨rfl, .hash (Code.word (s.drop (k + 1))), ?_, ⟨b, rfl, ⟨hb, lt_of_block hx⟩, hx⟩⟩
  rw [e, hnp, hp, h2]; rfl
set_option maxRecDepth 100000 in
set_option maxHeartbeats 4000000 in
theorem tree_hash (result : Bool) (sb : Nat) (s : List UInt8) (k : Nat) (w : World) (hsc : ScanR w sb s k false) (hk : k ≤ s.length) (hs : s.length ≤ 3000) (r : List UInt8) (h40 : Code.cut [40] (s.drop k) = none) (h33 : result = true → Code.cut [33, 40] (s.drop k) = none) (h35 : Code.cut [35] (s.drop k) = some r) :
  Calls Tryz.prog 63 #[.pointer (some ⟨sb, 0, none⟩), .bool result] w fun en w' => TPost (Code.atomQ (s.drop k)) s k sb w en w' := by
 have hno : ∀ (p : List UInt8), p.length ≤ 3000 → Code.cut p (s.drop k) = none → ∀ (w1 : World), ScanR w1 sb s k false → Calls Tryz.prog 104 #[.pointer (some ⟨sb, 0, none⟩), .string (bs p)] w1 fun e w' => w1.grownBy w' (some sb) ∧ e = .returned (.bool false) ∧ ScanR w' sb s k false := fun p hp hc w1 hr1 => by
  refine (is_any sb s p k false w1 hr1 hk hs hp).mono ?_
  rintro e w' ⟨hg, ⟨r, h1, h2, _⟩ | ⟨_, h2, h3⟩⟩
  ·rw [h2] at hc; cases hc
  ·exact ⟨hg, h2, h3⟩
 have his : ∀ w, ScanR w sb s k false → Calls Tryz.prog 104 #[.pointer (some ⟨sb, 0, none⟩), .string (bs [35])] w fun e w' => w.grownBy w' (some sb) ∧ e = .returned (.bool true) ∧ ScanR w' sb s (k + 1) false ∧ k + 1 ≤ s.length ∧ s.drop (k + 1) = r := fun w hsc => by
  refine (is_any sb s [35] k false w hsc hk hs (by simp)).mono ?_
  rintro e w' ⟨hg, ⟨r', _, h2, h3, h4, h5, h6⟩ | ⟨h1, _⟩⟩
  ·rw [h35] at h2
   exact ⟨hg, h5, h6, h4, by rw [Option.some.inj h2]; exact h3⟩
  ·rcases h1 with h1 | h1
   ·cases h1
   ·rw [h35] at h1; cases h1
 have HIS40 := hide (hno [40] (by simp) h40)
 have HIS33 : Hid (result = true → ∀ (w1 : World), ScanR w1 sb s k false → Calls Tryz.prog 104 #[.pointer (some ⟨sb, 0, none⟩), .string (bs [33, 40])] w1 fun e w' => w1.grownBy w' (some sb) ∧ e = .returned (.bool false) ∧ ScanR w' sb s k false) := hide fun h => hno [33, 40] (by simp) (h33 h)
 have HIS := hide his
 have H35 := hide h35
 clear hno his h40 h33 h35
 cases result with
 | false =>
  go_enter Tryz.func63, Tryz.ntmps63
  go_wp2_with fail
  refine (HIS40.out w hsc).mono ?_
  rintro en w0 ⟨hg0, rfl, hr0⟩
  go_wp2_with fail
  refine (HIS.out w0 hr0).mono ?_
  rintro en w1 ⟨hg1, rfl, hr1, hk1, hd1⟩
  have HD1 := hide hd1
  clear hd1
  go_wp2_with fail
  refine (name_any sb s (k + 1) false w1 hr1 hk1 hs).mono ?_
  rintro en w2 ⟨hg2, rfl, hr2⟩
  have hg02 := grown_trans hg0 (grown_trans hg1 hg2)
  have HF := hide (hash_gate (w := w) H35.out HD1.out hk1 (heap_alloc_new w2 _) hg02.size (grown_trans hg02 (grown_alloc _ _ _)) (stay_alloc hr2))
  go_wp2
  go_ret
  exact HF.out
 | true =>
  go_enter Tryz.func63, Tryz.ntmps63
  go_wp2_with fail
  refine (HIS40.out w hsc).mono ?_
  rintro en w0 ⟨hg0, rfl, hr0⟩
  go_wp2_with fail
  refine (HIS33.out (by trivial) w0 hr0).mono ?_
  rintro en w0b ⟨hg0b, rfl, hr0b⟩
  go_wp2_with fail
  refine (HIS.out w0b hr0b).mono ?_
  rintro en w1 ⟨hg1, rfl, hr1, hk1, hd1⟩
  have HD1 := hide hd1
  clear hd1
  go_wp2_with fail
  refine (name_any sb s (k + 1) false w1 hr1 hk1 hs).mono ?_
  rintro en w2 ⟨hg2, rfl, hr2⟩
  have hg02 := grown_trans hg0 (grown_trans hg0b (grown_trans hg1 hg2))
  have HF := hide (hash_gate (w := w) H35.out HD1.out hk1 (heap_alloc_new w2 _) hg02.size (grown_trans hg02 (grown_alloc _ _ _)) (stay_alloc hr2))
  go_wp2
  go_ret
  exact HF.out
theorem treeQ_leaf {result : Bool} {t : List UInt8} (h40 : Code.cut [40] t = none) (h33 : result = true → Code.cut [33, 40] t = none) (d : Nat) : Code.treeQ result d t = Code.atomQ t := by
 cases d with
 | zero =>
  simp only [Code.treeQ, h40, Option.isSome_none, Bool.false_eq_true, if_false]
  rw [if_neg]
  rintro ⟨h1, h2⟩
  rw [h33 h1] at h2; cases h2
 | succ d =>
  simp only [Code.treeQ, h40]
  cases result with
  | false => rfl
  | true => simp only [if_true, h33 rfl]
theorem tree_leaf (result : Bool) (sb : Nat) (s : List UInt8) (k : Nat) (bad : Bool) (w : World) (hsc : ScanR w sb s k bad) (hk : k ≤ s.length) (hs : s.length ≤ 3000) (h40 : bad = true ∨ Code.cut [40] (s.drop k) = none) (h33 : result = true → bad = true ∨ Code.cut [33, 40] (s.drop k) = none) :
  Calls Tryz.prog 63 #[.pointer (some ⟨sb, 0, none⟩), .bool result] w fun en w' => TPost (gate bad (Code.atomQ (s.drop k))) s k sb w en w' := by
 by_cases h35 : bad = true ∨ Code.cut [35] (s.drop k) = none
 ·by_cases hn : Code.numRun (s.drop k) = []
  ·cases result with
   | false => exact tree_nameF sb s k bad w hsc hk hs h40 h35 hn
   | true => exact tree_nameT sb s k bad w hsc hk hs h40 (h33 rfl) h35 hn
  ·cases result with
   | false => exact tree_numF sb s k bad w hsc hk hs h40 h35 hn
   | true => exact tree_numT sb s k bad w hsc hk hs h40 (h33 rfl) h35 hn
 ·have hb : bad = false := by
   cases bad with
   | false => rfl
   | true => exact absurd (Or.inl rfl) h35
  subst hb
  have h40' := h40.resolve_left (by simp)
  cases hc : Code.cut [35] (s.drop k) with
  | none => exact absurd (Or.inr hc) h35
  | some r => exact tree_hash result sb s k w hsc hk hs r h40' (fun h => (h33 h).resolve_left (by simp)) hc
theorem tree_of (e : Nat) (hI : ∀ d, e = d + 1 → InnerC d) : TreeC e := by
 intro result sb s k bad w hsc hk hke hs
 cases bad with
 | true =>
  have h := tree_leaf result sb s k true w hsc hk hs (Or.inl rfl) (fun _ => Or.inl rfl)
  exact h
 | false =>
  cases h40 : Code.cut [40] (s.drop k) with
  | some r =>
   have hl := congrArg List.length (Code.cut_some h40)
   simp only [List.length_drop, List.length_append, List.length_cons, List.length_nil] at hl
   obtain ⟨d, rfl⟩ : ∃ d, e = d + 1 := ⟨e - 1, by omega⟩
   have h := tree_op d (hI d rfl) result sb s k w hsc hk hke hs r h40
   have eq : gate false (Code.treeQ result (d + 1) (s.drop k)) = Code.innerP (Code.treeQ result d) .op r := by simp only [gate, Code.treeQ, h40]
   rw [eq]; exact h
  | none =>
   by_cases h33 : result = true → Code.cut [33, 40] (s.drop k) = none
   ·have h := tree_leaf result sb s k false w hsc hk hs (Or.inr h40) (fun h => Or.inr (h33 h))
    rw [treeQ_leaf h40 h33]; exact h
   ·have hr : result = true := by
     cases result with
     | true => rfl
     | false => exact absurd (fun h => by cases h) h33
    subst hr
    cases hc : Code.cut [33, 40] (s.drop k) with
    | none => exact absurd (fun _ => hc) h33
    | some r =>
     have hl := congrArg List.length (Code.cut_some hc)
     simp only [List.length_drop, List.length_append, List.length_cons, List.length_nil] at hl
     obtain ⟨d, rfl⟩ : ∃ d, e = d + 1 := ⟨e - 1, by omega⟩
     have h := tree_fold d (hI d rfl) sb s k w hsc hk hke hs r h40 hc
     have eq : gate false (Code.treeQ true (d + 1) (s.drop k)) = Code.innerP (Code.treeQ true d) .fold r := by simp only [gate, Code.treeQ, h40, if_true, hc]
     rw [eq]; exact h
theorem tree_any : ∀ e, TreeC e
 | 0 => tree_of 0 (fun _ h => by cases h)
 | e + 1 => tree_of (e + 1) (fun d h => by
  have : d = e := by omega
  subst this
  exact inner_of d (tree_any d))
theorem inner_any (e : Nat) : InnerC e := inner_of e (tree_any e)
def kidsOf : RTree → List RTree
 | .op _ l => l
 | .fold _ l => l
 | _ => []
theorem RepD.open {w : World} {I : Nat → Prop} {v : Value} {t : RTree} (h : RepD w I v t) : ∃ b kp kc vs, v = .pointer (some ⟨b, 0, none⟩) ∧ w.heap[b]? = some (.cells #[.int .u8 (kindOf t : Nat), .string (bs (wordOf t)), .int .i64 (numOf t), .slice kp vs.length kc] 135) ∧ w.ownsRow 0 67 1 (.slice kp vs.length kc) vs.length vs ∧ vs.length ≤ 2 ∧ vs.length = (kidsOf t).length ∧ vs.length ≤ kc ∧ RepDs w I vs (kidsOf t) := by
 cases t with
 | name x => obtain ⟨b, h1, _, h3⟩ := h; exact ⟨b, none, 0, [], h1, h3, ⟨rfl, Or.inl ⟨rfl, rfl⟩⟩, by simp, rfl, by simp, trivial⟩
 | hash x => obtain ⟨b, h1, _, h3⟩ := h; exact ⟨b, none, 0, [], h1, h3, ⟨rfl, Or.inl ⟨rfl, rfl⟩⟩, by simp, rfl, by simp, trivial⟩
 | num c => obtain ⟨b, h1, _, h3, _⟩ := h; exact ⟨b, none, 0, [], h1, h3, ⟨rfl, Or.inl ⟨rfl, rfl⟩⟩, by simp, rfl, by simp, trivial⟩
 | op k kids =>
  obtain ⟨b, kv, vs, h1, _, h3, h4, h5, h6, _, h7⟩ := h
  obtain ⟨p, c, rfl⟩ := own_slice h6
  exact ⟨b, p, c, vs, h1, h3, h6, by rw [h5]; exact (Code.opOf_range k h4).2, h7.length, own_cap h6, h7⟩
 | fold k kids =>
  obtain ⟨b, kv, vs, h1, _, h3, h4, h5, h6, _, h7⟩ := h
  obtain ⟨p, c, rfl⟩ := own_slice h6
  exact ⟨b, p, c, vs, h1, h3, h6, by rw [h5]; exact (Code.opOf_range k h4).2, h7.length, own_cap h6, h7⟩
theorem kid_cell {w : World} {I : Nat → Prop} {kp : Option Addr} {kc : Nat} {vs : List Value} {ts : List RTree} (ho : w.ownsRow 0 67 1 (.slice kp vs.length kc) vs.length vs) (hd : RepDs w I vs ts) (hl : vs.length = ts.length) (j : Nat) (hj : j < vs.length) (hj' : j < ts.length) :
  ∃ g b, kp = some ⟨g, 0, none⟩ ∧ w.cell? ⟨g, j, none⟩ = some (.pointer (some ⟨b, 0, none⟩)) ∧ RepD w I (.pointer (some ⟨b, 0, none⟩)) (ts[j]'hj') := by
 obtain ⟨g, cap, hge, _, _, hcell⟩ := row_open ho (by omega)
 simp only [Value.slice.injEq] at hge
 have hr := hd.get j (by omega) hj
 obtain ⟨b, hb, _, _⟩ := hr.ptr
 have hc := hcell j _ (List.getElem?_eq_getElem hj)
 rw [hb] at hc hr
 exact ⟨g, b, hge.1, hc, hr⟩
theorem RepD.below {w w' : World} {I : Nat → Prop} {v : Value} {t : RTree} (h : RepD w I v t) (hb : Below w.heap.size w w') : RepD w' I v t := RepD.kept (keepsD_below hb) (fun _ h => h) t v h
theorem RepDs.below {w w' : World} {I : Nat → Prop} {v : List Value} {t : List RTree} (h : RepDs w I v t) (hb : Below w.heap.size w w') : RepDs w' I v t := RepDs.kept (keepsD_below hb) (fun _ h => h) t v h
theorem tree_all {P : RTree → Prop} (h : ∀ t, (∀ s ∈ kidsOf t, P s) → P t) : ∀ t, P t
 | .name x => h _ (fun _ hs => by cases hs)
 | .hash x => h _ (fun _ hs => by cases hs)
 | .num c => h _ (fun _ hs => by cases hs)
 | .op k kids => h _ (all kids)
 | .fold k kids => h _ (all kids)
where
 all : ∀ (l : List RTree), ∀ s ∈ l, P s
  | [], _, hs => by cases hs
  | t :: l, s, hs => (List.mem_cons.1 hs).elim (fun e => e ▸ tree_all h t) (fun hm => all l s hm)
theorem depthAll_take (l : List RTree) (k : Nat) (h : k < l.length) : Code.depthAll (l.take (k + 1)) = max (Code.depthAll (l.take k)) (l[k]).depth := by
 induction l generalizing k with
 | nil => simp at h
 | cons t l ih =>
  cases k with
  | zero => simp [Code.depthAll]
  | succ k =>
   simp only [List.take_succ_cons, Code.depthAll, List.getElem_cons_succ]
   rw [ih k (by simpa using h)]
   omega
theorem depthAll_le (l : List RTree) (k : Nat) : Code.depthAll (l.take k) ≤ Code.depthAll l := by
 induction l generalizing k with
 | nil => simp [Code.depthAll]
 | cons t l ih =>
  cases k with
  | zero => simp [Code.depthAll]
  | succ k =>
   have := ih k
   simp only [List.take_succ_cons, Code.depthAll]
   omega
def isOpT (t : RTree) : Bool := kindOf t == 111
def isFoldT (t : RTree) : Bool := kindOf t == 33
theorem depth_eq (t : RTree) : t.depth = Code.depthAll (kidsOf t) + if (isOpT t || isFoldT t) = true then 1 else 0 := by
 cases t <;> simp [RTree.depth, kidsOf, isOpT, isFoldT, kindOf, Code.depthAll]
def DepthC (t : RTree) : Prop := ∀ (I : Nat → Prop) (v : Value) (w : World), RepD w I v t → t.depth ≤ 3000 →
 Calls Tryz.prog 64 #[v] w fun e w' => e = .returned (.int .i64 (t.depth : Nat)) ∧ Below w.heap.size w w'
theorem kind_bool (t : RTree) : (((kindOf t : Nat) : Int) == 111) = isOpT t ∧ (((kindOf t : Nat) : Int) == 33) = isFoldT t := by
 cases t <;> exact ⟨rfl, rfl⟩
set_option maxRecDepth 100000 in
set_option maxHeartbeats 4000000 in
theorem depth_of (t : RTree) (ih : ∀ s ∈ kidsOf t, DepthC s) : DepthC t := by
 intro I v w hrep hd
 obtain ⟨b, kp, kc, vs, rfl, hx, hown, hv2, hvl, hvc, hds⟩ := hrep.open
 have HOWN := hide hown
 have HDS := hide hds
 have HVL := hide hvl
 have HIH := hide ih
 have hde := depth_eq t
 have hdk : Code.depthAll (kidsOf t) ≤ t.depth := by omega
 obtain ⟨hk1, hk2⟩ := kind_bool t
 have hxlt := lt_of_block hx
 clear hrep hown hds hvl ih
 have hfin : (isOpT t = true ∨ isFoldT t = true) ∧ Hid ((t.depth : Int) = (Code.depthAll (kidsOf t) : Int) + 1) ∨ (isOpT t = false ∧ isFoldT t = false ∧ Hid (t.depth = Code.depthAll (kidsOf t))) := by
  cases h1 : isOpT t <;> cases h2 : isFoldT t
  ·exact Or.inr ⟨rfl, rfl, by rw [hde, h1, h2]; simp [Hid]⟩
  ·exact Or.inl ⟨Or.inr rfl, by rw [hde, h1, h2]; simp [Hid]⟩
  ·exact Or.inl ⟨Or.inl rfl, by rw [hde, h1, h2]; simp [Hid]⟩
  ·exact Or.inl ⟨Or.inl rfl, by rw [hde, h1, h2]; simp [Hid]⟩
 have HFIN := hide hfin
 clear hde hfin
 generalize hkd : kindOf t = kd at *
 generalize hkids : kidsOf t = kids at *
 go_enter Tryz.func64, Tryz.ntmps64
 go_wp2_with fail
 go_loopw [3, 4] (fun n i wr => ∃ j : Nat, j ≤ vs.length ∧ i = .int .i64 (j : Nat) ∧ n = .int .i64 (Code.depthAll (kids.take j) : Nat) ∧ Below w.heap.size w wr) (fun _ i _ => vs.length - (intOf i).toNat)
 case atStart => exact ⟨0, by omega, rfl, by simp [Code.depthAll], Below.refl _ _⟩
 case round =>
  obtain ⟨j, hj, rfl, rfl, hbw⟩ := hrel
  have hx' := (hbw.block b hxlt).trans hx
  have c0 := blk_cell hx' 0 _ rfl
  have c3 := blk_cell hx' 3 _ rfl
  have hle := depthAll_le kids j
  by_cases hlt : j < vs.length
  ·have hlk : j < kids.length := by rw [← HVL.out]; exact hlt
   obtain ⟨g, b', hge, hc, hr⟩ := kid_cell (own_below HOWN.out hbw) (HDS.out.below hbw) HVL.out j hlt hlk
   subst hge
   have hst := depthAll_take kids j hlk
   have hle2 := depthAll_le kids (j + 1)
   have HW := hide (HIH.out kids[j] (List.getElem_mem hlk) I _ wr hr (by omega))
   have hjl : (j : Int) < (vs.length : Int) := by omega
   clear hr hk1 hk2 HFIN
   generalize (kids[j]).depth = dv at *
   generalize Code.depthAll (kids.take j) = S at *
   generalize hS1 : Code.depthAll (kids.take (j + 1)) = S1 at *
   go_wp2_with fail
   refine (HW.out).mono ?_
   rintro e w4 ⟨rfl, hb4⟩
   have hbw4 := hbw.trans (hb4.mono hbw.size)
   by_cases hgt : (S : Int) < (dv : Int)
   ·have hS' : S1 = dv := by omega
    clear hst
    go_wp2
    exact ⟨⟨j + 1, by omega, by go_num, by rw [hS1, hS'], hbw4⟩, by simp [intOf]; omega⟩
   ·have hS' : S1 = S := by omega
    clear hst
    go_wp2
    exact ⟨⟨j + 1, by omega, by go_num, by rw [hS1, hS'], hbw4⟩, by simp [intOf]; omega⟩
  ·have hjn : kids.take j = kids := List.take_of_length_le (by rw [← HVL.out]; omega)
   rw [hjn] at *
   clear hjn
   generalize Code.depthAll kids = D at *
   rcases HFIN.out with ⟨h12, hdd⟩ | ⟨h1, h2, hdd⟩
   ·rcases h12 with h1 | h2
    ·rw [h1] at hk1
     clear h1
     go_wp2
     go_ret
     exact ⟨ret_int hdd.out.symm, hbw⟩
    ·rw [h2] at hk2
     clear h2
     by_cases h1 : isOpT t = true
     ·rw [h1] at hk1
      clear h1
      go_wp2
      go_ret
      exact ⟨ret_int hdd.out.symm, hbw⟩
     ·have h1' : isOpT t = false := by simpa using h1
      rw [h1'] at hk1
      clear h1 h1'
      go_wp2
      go_ret
      exact ⟨ret_int hdd.out.symm, hbw⟩
   ·rw [h1] at hk1
    rw [h2] at hk2
    clear h1 h2
    go_wp2
    go_ret
    exact ⟨ret_int (by rw [hdd.out]), hbw⟩
theorem depth_any (t : RTree) : DepthC t := tree_all depth_of t
end Go.Proofs.YtedkjanogjglkaaGreatDoor.D
