/-
  Parts of the proof: CAheadOk, CRight, CIr, KHeld, CFail, CNo, KText, KLine, CIr2, CReckon.
-/
import Derived.Test.YtedkjanogjglkaaGreatDoorP06
import Derived.Recover
import Derived.Test.YtedkjanogjglkaaGreatDoorP01
import Derived.Deep.RegionHeld3
import Derived.Test.YtedkjanogjglkaaGreatDoorP03
import Derived.Test.YtedkjanogjglkaaGreatDoorP02
import Derived.Test.YtedkjanogjglkaaGreatDoorP04
set_option maxRecDepth 100000
set_option maxHeartbeats 8000000
namespace Go.Proofs.YtedkjanogjglkaaGreatDoor
open Go.RowKit
namespace Code
def ValsOk : List Bool -> List Val -> Prop
 | _, [] => True
 | R, v :: l => hasAll R (useT v.thing) = true /\ ValsOk (R.set v.num true) l
def AheadOk (bks : List Blk) (A : Sets) : Prop :=
 ∀ j (h : j < bks.length) (h' : j < A.length), ValsOk A[j] bks[j].values /\ hasAll (addAll A[j] bks[j].values) (useL bks[j].last) = true /\
  ∀ k (hk : k < (tg bks[j].last).length) (ht : (tg bks[j].last)[k] < bks.length), PhisMade bks[(tg bks[j].last)[k]].values ((edges bks).places j k) (addAll A[j] bks[j].values)
def Small (bks : List Blk) : Prop := ∀ b ∈ bks, b.values.length <= 100000 /\ (∀ v ∈ b.values, v.num < 60 /\ (useT v.thing).length <= 100000 /\ ∀ x ∈ useT v.thing, x < 60) /\ (useL b.last).length <= 100000 /\ ∀ x ∈ useL b.last, x < 60
end Code
theorem below_of_grown {w w4 ws : World} {b : Nat} (h : Below w.heap.size w w4) (hg : w4.grownBy ws (some b)) (hb : w.heap.size <= b) : Below w.heap.size w ws :=
 h.trans ⟨hg.os, hg.tape, hg.output, hg.size, fun k hk => hg.block k (Nat.lt_of_lt_of_le hk h.size) (fun e => by simp at e; omega)⟩
theorem newSet (w5 : World) (E : List Bool) (hE : E.length = 60) : setRow ((w5.alloc (.cells #[.bool false, .bool false, .bool false, .bool false, .bool false, .bool false, .bool false, .bool false, .bool false, .bool false, .bool false, .bool false, .bool false, .bool false, .bool false, .bool false, .bool false, .bool false, .bool false, .bool false, .bool false, .bool false, .bool false, .bool false, .bool false, .bool false, .bool false, .bool false, .bool false, .bool false, .bool false, .bool false, .bool false, .bool false, .bool false, .bool false, .bool false, .bool false, .bool false, .bool false, .bool false, .bool false, .bool false, .bool false, .bool false, .bool false, .bool false, .bool false, .bool false, .bool false, .bool false, .bool false, .bool false, .bool false, .bool false, .bool false, .bool false, .bool false, .bool false, .bool false] 281)).setCells w5.heap.size 0 (setL E).toArray.toList) w5.heap.size E := by
 have hnew : setRow (w5.alloc (.cells (setA noNumber) 281)) w5.heap.size noNumber := heap_alloc_new w5 _
 exact hnew.put _ (by rw [hE]; rfl)
theorem newThere (w' : World) : (w'.alloc (.cells #[.bool false, .bool false, .bool false, .bool false, .bool false, .bool false, .bool false, .bool false, .bool false, .bool false, .bool false, .bool false, .bool false, .bool false, .bool false, .bool false, .bool false, .bool false, .bool false, .bool false, .bool false, .bool false, .bool false, .bool false, .bool false, .bool false, .bool false, .bool false, .bool false, .bool false, .bool false, .bool false, .bool false, .bool false, .bool false, .bool false, .bool false, .bool false, .bool false, .bool false, .bool false, .bool false, .bool false, .bool false, .bool false, .bool false, .bool false, .bool false, .bool false, .bool false, .bool false, .bool false, .bool false, .bool false, .bool false, .bool false, .bool false, .bool false, .bool false, .bool false] 281)).there w'.heap.size 0 60 := by
 have hnew : setRow (w'.alloc (.cells (setA noNumber) 281)) w'.heap.size noNumber := heap_alloc_new w' _
 exact hnew.there
theorem madeAhead_ok (args : Nat) (bks : List Code.Blk) (p : Option Addr) (c : Nat) (base : Nat) (w : World) (hf : RepBlks w base (.slice p bks.length c) bks) (hn : bks.length <= 8) (hn0 : 0 < bks.length) (hl : Code.Small bks) (ht : ∀ b ∈ bks, ∀ t ∈ Code.tg b.last, t < bks.length)
  (ha : ∀ A, A.length = bks.length -> All60 A -> Code.Iter bks (Code.startTo bks.length bks.length) A -> Code.AheadOk bks A) :
  Calls Tryz.prog 123 #[.agg #[.int .i64 (args : Nat), .slice p bks.length c]] w fun e w' => e = .returned (.tuple #[]) /\ Below w.heap.size w w' := by
 have HF := hide hf
 have HTG := hide ht
 have HL := hide hl
 clear hf ht hl
 go_enter Tryz.func123, Tryz.ntmps123
 go_wp2_with fail
 generalize hw0 : w.alloc _ = w0
 have hx0 : w0.heap[w.heap.size]? = some (.cells #[.int .i64 (args : Nat), .slice p bks.length c] 78) := by rw [<- hw0]; exact heap_alloc_new w _
 have hb0 : Below w.heap.size w w0 := by rw [<- hw0]; exact below_al (Below.refl _ _) _
 have hz0 : w0.heap.size = w.heap.size + 1 := by rw [<- hw0]; simp
 clear hw0
 refine (edges_any args bks p c base w0 (HF.out.below hb0) hn HTG.out).mono ?_
 rintro e w1 ⟨mb, gc, n, rfl, hmb, hgc, hE, _, hb1⟩
 have hx1 := (hb1.block _ (lt_of_block hx0)).trans hx0
 have hbw1 : Below w.heap.size w w1 := hb0.trans (hb1.mono hb0.size)
 have hx1a := blk_cell hx1 0 _ rfl
 have hx1b := blk_cell hx1 1 _ rfl
 clear hx0 hb0 hb1
 go_wp2_with fail
 refine (madeAhead_any args bks p c base w1 (HF.out.below hbw1) hn hn0 (fun b hb => ⟨(HL.out b hb).1, fun v hv => ((HL.out b hb).2.1 v hv).1⟩) HTG.out).mono ?_
 rintro e w2 ⟨gA, A, rfl, hgA, hA, hA6, hrA, hit, hb2⟩
 have HAO := hide (ha A hA hA6 hit)
 have hx2 := (hb2.block _ (lt_of_block hx1)).trans hx1
 have hE2 := hE.below hb2
 have hbw2 : Below w.heap.size w w2 := hbw1.trans (hb2.mono hbw1.size)
 have hx2b := blk_cell hx2 1 _ rfl
 have hmb1 := hE.lt
 have hz1 := hbw1.size
 have hmbA : mb < gA := by omega
 clear hx1 hx1a hx1b hE hbw1 hb2 hit ha
 go_wp2_with fail
 obtain ⟨p', c', hpe, hblk⟩ := HF.out.open
 simp only [Value.slice.injEq] at hpe
 obtain ⟨rfl, _, rfl⟩ := hpe
 have HBLK := hide hblk
 clear hblk hx2b
 go_loopw [22] (fun i wr => ∃ j : Nat, j <= bks.length /\ i = .int .i64 j /\ setsRow wr gA A /\ EMap wr mb n (Code.edges bks).places /\ wr.heap[w.heap.size]? = some (.cells #[.int .i64 (args : Nat), .slice p bks.length c] 78) /\ Below w.heap.size w wr) (fun i _ => bks.length - (intOf i).toNat)
 case atStart => exact ⟨0, by omega, rfl, hrA, hE2, hx2, hbw2⟩
 case round =>
  obtain ⟨j, hj, rfl, hrs, hEm, hxs, hbs⟩ := hrel
  clear hrA hE2 hx2 hbw2
  have hzs := hbs.size
  by_cases hlt : j < bks.length
  ·obtain ⟨gb, vs, rfl, hg, c0, c1, hvs⟩ := HBLK.out j hlt
   obtain ⟨hlen, hnum, hul, hul6⟩ := HL.out bks[j] (List.getElem_mem hlt)
   have hjA : j < A.length := by omega
   obtain ⟨hvok, hlok, hpok⟩ := HAO.out j hlt hjA
   obtain ⟨pv, cv, rfl, hval⟩ := hvs.open
   have c0' : wr.cell? ⟨gb, j * 2, none⟩ = some (.slice pv bks[j].values.length cv) := by rw [(bcell hbs).1 gb _ hg]; exact c0
   obtain ⟨T, zv, hzv⟩ := lastV_shape bks[j].last
   have c1' : wr.cell? ⟨gb, j * 2 + 1, none⟩ = some (.iface T zv) := by rw [(bcell hbs).1 gb _ hg, <- hzv]; exact c1
   have HTA := hide (targets_any bks[j].last)
   have HUL := hide (usesOfLast_any bks[j].last)
   rw [hzv] at HTA HUL
   have htb : ∀ t ∈ Code.tg bks[j].last, t < bks.length := HTG.out bks[j] (List.getElem_mem hlt)
   have htl := Code.tg_length bks[j].last
   have hR60 : A[j].length = 60 := hA6 _ (List.getElem_mem hjA)
   have HRG : Hid (∀ w', setsRow w' gA A -> w'.rangeAt gA (j * 60) (setL A[j])) := hide fun w' h => h.range hA6 j hjA
   have HV := hide hval
   have HVOK := hide hvok
   have HLOK := hide hlok
   have HPOK := hide hpok
   have HNUM := hide hnum
   have HUL6 := hide hul6
   generalize Code.useL bks[j].last = ul at *
   generalize Code.tg bks[j].last = tl at *
   generalize bks[j].values = vals at *
   generalize A[j] = Rj at *
   clear c0 c1 hvs hzv hval hvok hlok hpok hnum hul6
   have hjl : (j : Int) < (bks.length : Int) := by omega
   have hiR := setSize Rj hR60
   have hiR' : (Tryz.prog.info? 281).map (·.size) = some (setL Rj).toArray.size := setSize' Rj hR60
   have hoR : (setL Rj).toArray.all (·.oneCell') = true := setOne Rj
   have hlR : (setL Rj).toArray.size = 60 := by rw [List.size_toArray, setL_length]; exact hR60
   have hcc : (((wr.alloc (.cells #[.slice pv vals.length cv, .iface T zv] 165)).alloc (.cells #[.bool false, .bool false, .bool false, .bool false, .bool false, .bool false, .bool false, .bool false, .bool false, .bool false, .bool false, .bool false, .bool false, .bool false, .bool false, .bool false, .bool false, .bool false, .bool false, .bool false, .bool false, .bool false, .bool false, .bool false, .bool false, .bool false, .bool false, .bool false, .bool false, .bool false, .bool false, .bool false, .bool false, .bool false, .bool false, .bool false, .bool false, .bool false, .bool false, .bool false, .bool false, .bool false, .bool false, .bool false, .bool false, .bool false, .bool false, .bool false, .bool false, .bool false, .bool false, .bool false, .bool false, .bool false, .bool false, .bool false, .bool false, .bool false, .bool false, .bool false] 281)).setCells (wr.heap.size + 1) 0 (setL Rj)).cell? ⟨wr.heap.size, 0, none⟩ = some (.slice pv vals.length cv) := blk_cell (stay_cells (stay_alloc (heap_alloc_new wr _)) (by omega)) 0 _ rfl
   go_wp2_with (first | refine wpList_load_mid rfl 281 _ rfl gA (j * 60) rfl (setL Rj) _ (HRG.out _ (stay_alloc hrs)) Tryz.underlying281 rfl hiR ?_ | (refine wpList_store_mid rfl 281 _ _ rfl (wr.heap.size + 1) 0 (setL Rj).toArray rfl rfl ?_ hiR' hoR ?_; (rw [hlR]; (have h := newThere (wr.alloc (.cells #[.slice pv vals.length cv, .iface T zv] 165))); (rw [alloc_size] at h); exact h); (rw [show (setL Rj).toArray.toList = setL Rj from rfl])))
   generalize hw4 : World.setCells _ _ _ _ = w4
   have hM4 : setRow w4 (wr.heap.size + 1) Rj := by
    have h := newSet (wr.alloc (.cells #[.slice pv vals.length cv, .iface T zv] 165)) Rj hR60
    rw [alloc_size] at h
    rw [<- hw4]; exact h
   have hb4 : Below wr.heap.size wr w4 := by rw [<- hw4]; exact below_cells (below_al (below_al (Below.refl _ _) _) _) (Nat.le_succ _) _ _
   have hcp4 : w4.heap[wr.heap.size]? = some (.cells #[.slice pv vals.length cv, .iface T zv] 165) := by
    rw [<- hw4]; exact stay_cells (stay_alloc (heap_alloc_new wr _)) (by omega)
   have hbw4 : Below w.heap.size w w4 := hbs.trans (hb4.mono hzs)
   have hrs4 : setsRow w4 gA A := (hb4.block _ (lt_of_block hrs)).trans hrs
   have hEm4 := hEm.below hb4
   have hxs4 := (hb4.block _ (lt_of_block hxs)).trans hxs
   have hltA := lt_of_block hrs
   have hltM := hEm.lt
   have hltX := lt_of_block hxs
   clear hw4 hrs hEm hxs hbs c0' c1' hb4
   clear hcc
   generalize hb6 : wr.heap.size = b6 at *
   rename World => wo
   go_loopw [34] (fun i ws => ∃ (k : Nat) (S : List Bool), k <= vals.length /\ i = .int .i64 k /\ S.length = 60 /\ setRow ws (b6 + 1) S /\ wo.grownBy ws (some (b6 + 1)) /\ Hid (Code.ValsOk S (vals.drop k) /\ Code.addAll S (vals.drop k) = Code.addAll Rj vals)) (fun i _ => vals.length - (intOf i).toNat)
   case atStart => exact ⟨0, Rj, by omega, rfl, hR60, hM4, grown_refl _ _, hide ⟨HVOK.out, rfl⟩⟩
   case round =>
    obtain ⟨k, S, hk, rfl, hS, hMk, hgk, hsp⟩ := hrel
    clear hM4
    have hbk := below_of_grown hbw4 hgk (by omega)
    have hMl := lt_of_block hMk
    by_cases hkt : k < vals.length
    ·obtain ⟨g2, th, rfl, hg2, d0, d1, hth⟩ := HV.out k hkt
     obtain ⟨hx60, hul2, hu60⟩ := HNUM.out vals[k] (List.getElem_mem hkt)
     have hvo := hsp.out.1
     have hva := hsp.out.2
     rw [List.drop_eq_getElem_cons hkt] at hvo hva
     have HH := hide hvo.1
     have HN : Hid (Code.ValsOk (S.set vals[k].num true) (vals.drop (k + 1)) /\ Code.addAll (S.set vals[k].num true) (vals.drop (k + 1)) = Code.addAll Rj vals) := hide ⟨hvo.2, hva⟩
     have d0' : wr.cell? ⟨g2, k * 2, none⟩ = some (.int .i64 (vals[k].num : Nat)) := by rw [(bcell hbk).1 g2 _ hg2]; exact d0
     have d1' : wr.cell? ⟨g2, k * 2 + 1, none⟩ = some th := by rw [(bcell hbk).1 g2 _ hg2]; exact d1
     have HTH := hide hth
     generalize vals[k].thing = y at *
     generalize vals[k].num = x at *
     obtain ⟨T', tv, rfl⟩ := hth.shape
     clear d0 d1 hth hsp hvo hva
     have hx' : (x : Int) < 60 := by omega
     obtain ⟨bx, hcx⟩ : ∃ bx, wr.cell? ⟨b6 + 1, x, none⟩ = some bx := ⟨_, hMk.cell x (by omega)⟩
     go_wp2_with fail
     generalize hw9 : wr.alloc _ = w9
     have hb9 : Below wr.heap.size wr w9 := by rw [<- hw9]; exact below_al (Below.refl _ _) _
     have hcp9 : w9.heap[wr.heap.size]? = some (.cells #[.int .i64 (x : Nat), .iface T' tv] 169) := by rw [<- hw9]; exact heap_alloc_new wr _
     have hM9 : setRow w9 (b6 + 1) S := (hb9.block _ hMl).trans hMk
     have hbw9 : Below w.heap.size w w9 := hbk.trans (hb9.mono hbk.size)
     generalize hb8 : wr.heap.size = b8 at *
     clear hw9 d0' d1' hcx
     have e1 : ∀ w', Below w9.heap.size w9 w' -> w'.cell? ⟨b8, 1, none⟩ = some (.iface T' tv) := fun w' h => blk_cell ((h.block _ (lt_of_block hcp9)).trans hcp9) 1 _ rfl
     have HRG9 : Hid (∀ w', Below w9.heap.size w9 w' -> w'.rangeAt (b6 + 1) 0 (setL S)) := hide fun w' h => setRow.range (w := w') ((h.block _ (lt_of_block hM9)).trans hM9)
     have HUP : Hid (∀ w', Below w9.heap.size w9 w' -> Calls Tryz.prog 166 #[.iface T' tv] w' fun e w'' => ∃ r, e = .returned r /\ w''.ownsRow base 3 1 r (Code.useT y).length (nats (Code.useT y)) /\ Below w9.heap.size w9 w'') := hide fun w' h => by
      have hbw' : Below w.heap.size w w' := hbw9.trans (h.mono hbw9.size)
      refine (usesInPlace_any y (.iface T' tv) base w' (HTH.out.mono (fun _ _ _ h => own_below h hbw'))).mono ?_
      rintro e w'' ⟨r, h1, h2, h3⟩
      exact ⟨r, h1, h2, h.trans (h3.mono h.size)⟩
     have HHA : Hid (∀ w' r, Below w9.heap.size w9 w' -> w'.ownsRow base 3 1 r (Code.useT y).length (nats (Code.useT y)) -> Calls Tryz.prog 165 #[.agg (setL S).toArray, r] w' fun e w'' => e = .returned (.bool true) /\ Below w9.heap.size w9 w'') := hide fun w' r h hr => by
      refine (hasAll_any S hS (Code.useT y) hu60 hul2 r base w' hr).mono ?_
      rintro e w'' ⟨h1, h2⟩
      rw [HH.out] at h1
      exact ⟨h1, h.trans (h2.mono h.size)⟩
     have hu := Tryz.underlying281
     have hi60 := setSize S hS
     have hl60 : (setL S).length = 60 := by rw [setL_length]; exact hS
     go_region_held3 (fun w' => Below w9.heap.size w9 w' /\ w'.rangeAt (b6 + 1) 0 (setL S)) (first | assumption | (go_split_ands; (try dsimp only); refine ⟨?_, HRG9.out _ ?_⟩ <;> (repeat' (first | assumption | exact Below.refl _ _ | apply Below.drew)))) (first | (go_at_call 166; refine (HUP.out _ ?_).mono ?_; (repeat' (first | assumption | exact Below.refl _ _ | apply Below.drew)); rintro e w10 ⟨r, rfl, hrow, hb10⟩) | (go_at_call 165; refine (HHA.out _ _ ?_ ?_).mono ?_; (exact hb10); (exact hrow); rintro e w11 ⟨rfl, hb11⟩))
     have hcp11 := (hb11.block _ (lt_of_block hcp9)).trans hcp9
     have hM11 : setRow w11 (b6 + 1) S := (hb11.block _ (lt_of_block hM9)).trans hM9
     have f0 := blk_cell hcp11 0 _ rfl
     obtain ⟨by11, hcx11⟩ : ∃ b, w11.cell? ⟨b6 + 1, x, none⟩ = some b := ⟨_, hM11.cell x (by omega)⟩
     have hfz11 := blk_froz hM11 x
     have hg11 : wo.grownBy w11 (some (b6 + 1)) := grown_trans hgk (grown_below (hb8 ▸ (hb9.trans (hb11.mono (hb8 ▸ hb9.size)))))
     clear hcp9 hM9 e1 HRG9 HUP HHA hi60 hl60 hu
     go_wp2
     exact ⟨⟨k + 1, S.set x true, by omega, by go_num, by simp [hS], hM11.set x true, grown_trans hg11 (grown_set _ _ _ _), HN⟩, by simp [intOf]; omega⟩
    ·have HSA : Hid (S = Code.addAll Rj vals) := by
      have h := hsp.out.2
      rw [List.drop_of_length_le (by omega)] at h
      exact h
     clear hsp
     have hcpk := kept_block hcp4 hgk (by omega)
     have hb6l := lt_of_block hcpk
     have e1 : ∀ w', Below wr.heap.size wr w' -> w'.cell? ⟨b6, 1, none⟩ = some (.iface T zv) := fun w' h => blk_cell ((h.block _ hb6l).trans hcpk) 1 _ rfl
     have HRG9 : Hid (∀ w', Below wr.heap.size wr w' -> w'.rangeAt (b6 + 1) 0 (setL S)) := hide fun w' h => setRow.range (w := w') ((h.block _ hMl).trans hMk)
     have HUP : Hid (∀ w', Below wr.heap.size wr w' -> Calls Tryz.prog 167 #[.iface T zv] w' fun e w'' => ∃ r, e = .returned r /\ w''.ownsRow 0 3 1 r ul.length (nats ul) /\ Below wr.heap.size wr w'') := hide fun w' h => by
      refine (HUL.out w').mono ?_
      rintro e w'' ⟨r, h1, h2, h3⟩
      exact ⟨r, h1, own_base h2 (Nat.zero_le _), h.trans (h3.mono h.size)⟩
     have HHA : Hid (∀ w' r, Below wr.heap.size wr w' -> w'.ownsRow 0 3 1 r ul.length (nats ul) -> Calls Tryz.prog 165 #[.agg (setL S).toArray, r] w' fun e w'' => e = .returned (.bool true) /\ Below wr.heap.size wr w'') := hide fun w' r h hr => by
      refine (hasAll_any S hS ul HUL6.out hul r 0 w' hr).mono ?_
      rintro e w'' ⟨h1, h2⟩
      rw [HSA.out, HLOK.out] at h1
      exact ⟨h1, h.trans (h2.mono h.size)⟩
     have hu := Tryz.underlying281
     have hi60 := setSize S hS
     have hl60 : (setL S).length = 60 := by rw [setL_length]; exact hS
     go_wp2_with fail
     go_region_held3 (fun w' => Below wr.heap.size wr w' /\ w'.rangeAt (b6 + 1) 0 (setL S)) (first | assumption | (go_split_ands; (try dsimp only); refine ⟨?_, HRG9.out _ ?_⟩ <;> (repeat' (first | assumption | exact Below.refl _ _ | apply Below.drew)))) (first | (go_at_call 167; refine (HUP.out _ ?_).mono ?_; (repeat' (first | assumption | exact Below.refl _ _ | apply Below.drew)); rintro e w10 ⟨r, rfl, hrow, hb10⟩) | (go_at_call 165; refine (HHA.out _ _ ?_ ?_).mono ?_; (exact hb10); (exact hrow); rintro e w11 ⟨rfl, hb11⟩))
     have f1 := e1 w11 hb11
     clear e1 HRG9 HUP HHA hi60 hl60 hu
     go_wp2_with fail
     refine (HTA.out w11).mono ?_
     rintro e w12 ⟨v12, rfl, hown12, hb12⟩
     have hbq : Below wr.heap.size wr w12 := hb11.trans (hb12.mono hb11.size)
     have hg12 : wo.grownBy w12 (some (b6 + 1)) := grown_trans hgk (grown_below hbq)
     have hM12 : setRow w12 (b6 + 1) S := (hbq.block _ hMl).trans hMk
     have hz11 := hb11.size
     have hzk := hgk.size
     clear f1 hb11 hb12 hbq hcpk hMk hgk hbk
     obtain ⟨p12, c12, rfl, _⟩ := nats_open hown12
     go_wp2_with fail
     rename World => wz
     have hbwz := below_of_grown hbw4 hg12 (by omega)
     have hxsz := kept_block hxs4 hg12 (by omega)
     have hEmz := hEm4.kept hg12 (by simp; omega)
     have hrsz := kept_block hrs4 hg12 (by omega)
     have hmbz := hEmz.lt
     go_loopw [66] (fun i ws => ∃ k : Nat, k <= tl.length /\ i = .int .i64 k /\ Below wz.heap.size wz ws) (fun i _ => tl.length - (intOf i).toNat)
     case atStart => exact ⟨0, by omega, rfl, Below.refl _ _⟩
     case round =>
      obtain ⟨k, hk, rfl, hbz⟩ := hrel
      have hbwr : Below w.heap.size w wr := hbwz.trans (hbz.mono hbwz.size)
      by_cases hkt : k < tl.length
      ·obtain ⟨p13, c13, hpe, hval13⟩ := nats_open (own_below hown12 hbz)
       simp only [Value.slice.injEq] at hpe
       obtain ⟨rfl, _, rfl⟩ := hpe
       obtain ⟨g13, rfl, ct⟩ := hval13 k hkt
       have htk := htb tl[k] (List.getElem_mem hkt)
       have HPM := hide (HPOK.out k hkt htk)
       rw [<- HSA.out] at HPM
       have hlenT := (HL.out bks[tl[k]] (List.getElem_mem htk)).1
       have hx0 : ∀ w', Below wr.heap.size wr w' -> w'.cell? ⟨w.heap.size, 0, none⟩ = some (.int .i64 (args : Nat)) := fun w' h => blk_cell ((h.block _ (Nat.lt_of_lt_of_le (lt_of_block hxsz) hbz.size)).trans ((hbz.block _ (lt_of_block hxsz)).trans hxsz)) 0 _ rfl
       have hx1 : ∀ w', Below wr.heap.size wr w' -> w'.cell? ⟨w.heap.size, 1, none⟩ = some (.slice (some ⟨gb, 0, none⟩) bks.length c) := fun w' h => blk_cell ((h.block _ (Nat.lt_of_lt_of_le (lt_of_block hxsz) hbz.size)).trans ((hbz.block _ (lt_of_block hxsz)).trans hxsz)) 1 _ rfl
       have HRG9 : Hid (∀ w', Below wr.heap.size wr w' -> w'.rangeAt (b6 + 1) 0 (setL S)) := hide fun w' h => setRow.range (w := w') ((h.block _ (Nat.lt_of_lt_of_le (lt_of_block hM12) hbz.size)).trans ((hbz.block _ (lt_of_block hM12)).trans hM12))
       have hlook : ∀ w', Below wr.heap.size wr w' -> (Instr.lookup 251 (.map (some mb)) (.agg #[.int .i64 (j : Nat), .int .i64 (k : Nat)]) false).run Tryz.prog w' = .ok (.int .i64 ((Code.edges bks).places j k : Nat)) w' := fun w' h => ((hEmz.below hbz).below h).look j k (by omega) (by omega)
       have HCP : Hid (∀ w', Below wr.heap.size wr w' -> Calls Tryz.prog 168 #[.agg #[.int .i64 (args : Nat), .slice (some ⟨gb, 0, none⟩) bks.length c], .int .i64 (tl[k] : Nat), .int .i64 ((Code.edges bks).places j k : Nat), .agg (setL S).toArray] w' fun e w'' => e = .returned (.tuple #[]) /\ Below wr.heap.size wr w'') := hide fun w' h => by
        refine (phisMade_ok args bks (some ⟨gb, 0, none⟩) c base w' (HF.out.below (hbwr.trans (h.mono hbwr.size))) tl[k] htk hlenT _ S hS HPM.out).mono ?_
        rintro e w'' ⟨h1, h2⟩
        exact ⟨h1, h.trans (h2.mono h.size)⟩
       have hu := Tryz.underlying281
       have hi60 := setSize S hS
       have hl60 : (setL S).length = 60 := by rw [setL_length]; exact hS
       generalize (Code.edges bks).places j k = pl at *
       generalize tl[k] = tk at *
       clear hval13
       go_wp2_with fail
       go_region_held3 (fun w' => Below wr.heap.size wr w' /\ w'.rangeAt (b6 + 1) 0 (setL S)) (first | assumption | (go_split_ands; (try dsimp only); refine ⟨?_, HRG9.out _ ?_⟩ <;> (repeat' (first | assumption | exact Below.refl _ _ | apply Below.drew)))) (first | (go_at_call 168; refine (HCP.out _ ?_).mono ?_; (repeat' (first | assumption | exact Below.refl _ _ | apply Below.drew)); rintro e w14 ⟨rfl, hb14⟩))
       go_wp2
       exact ⟨⟨k + 1, by omega, by go_num, hbz.trans (hb14.mono hbz.size)⟩, by simp [intOf]; omega⟩
      ·go_wp2
       refine ⟨⟨j + 1, by omega, by go_num, (hbz.block _ (lt_of_block hrsz)).trans hrsz, hEmz.below hbz, (hbz.block _ (lt_of_block hxsz)).trans hxsz, hbwr⟩, by simp [intOf]; omega⟩
  ·go_wp2
   go_end0
   exact ⟨rfl, hbs⟩
namespace Code
structure Right (bks : List Blk) : Prop where
 most : bks.length <= 8
 some : 0 < bks.length
 small : Small bks
 once : Once noNumber bks
 goes : ∀ b ∈ bks, ∀ t ∈ tg b.last, 1 <= t /\ t < bks.length
 reached : reachF 9 (tgs bks) (List.replicate bks.length false) 0 = List.replicate bks.length true
 phis : PhisOk bks
 ahead : ∀ A, A.length = bks.length -> All60 A -> Iter bks (startTo bks.length bks.length) A -> AheadOk bks A
end Code
theorem requireRight_ok (args : Nat) (bks : List Code.Blk) (p : Option Addr) (c : Nat) (base : Nat) (w : World) (hf : RepBlks w base (.slice p bks.length c) bks) (hr : Code.Right bks) :
  Calls Tryz.prog 75 #[.agg #[.int .i64 (args : Nat), .slice p bks.length c]] w fun e w' => e = .returned (.tuple #[]) /\ Below w.heap.size w w' := by
 have HF := hide hf
 have HR := hide hr
 clear hf hr
 go_enter Tryz.func75, Tryz.ntmps75
 go_wp2_with fail
 generalize hw0 : w.alloc _ = w0
 have hx0 : w0.heap[w.heap.size]? = some (.cells #[.int .i64 (args : Nat), .slice p bks.length c] 78) := by rw [<- hw0]; exact heap_alloc_new w _
 have hb0 : Below w.heap.size w w0 := by rw [<- hw0]; exact below_al (Below.refl _ _) _
 clear hw0
 refine (madeOnce_ok args bks p c base w0 (HF.out.below hb0) HR.out.most (fun b hb => ⟨(HR.out.small b hb).1, fun v hv => ((HR.out.small b hb).2.1 v hv).1⟩) HR.out.once).mono ?_
 rintro e w1 ⟨rfl, hb1⟩
 have hx1 := (hb1.block _ (lt_of_block hx0)).trans hx0
 have hbw1 : Below w.heap.size w w1 := hb0.trans (hb1.mono hb0.size)
 have c0 := blk_cell hx1 0 _ rfl
 have c1 := blk_cell hx1 1 _ rfl
 clear hx0 hb0 hb1
 go_wp2_with fail
 refine (targets_ok args bks p c base w1 (HF.out.below hbw1) HR.out.most HR.out.goes).mono ?_
 rintro e w2 ⟨rfl, hb2⟩
 have hx2 := (hb2.block _ (lt_of_block hx1)).trans hx1
 have hbw2 : Below w.heap.size w w2 := hbw1.trans (hb2.mono hbw1.size)
 clear c0 c1 hx1 hbw1 hb2
 have c0 := blk_cell hx2 0 _ rfl
 have c1 := blk_cell hx2 1 _ rfl
 go_wp2_with fail
 refine (reached_ok args bks p c base w2 (HF.out.below hbw2) HR.out.most HR.out.some (fun b hb t ht => (HR.out.goes b hb t ht).2) HR.out.reached).mono ?_
 rintro e w3 ⟨rfl, hb3⟩
 have hx3 := (hb3.block _ (lt_of_block hx2)).trans hx2
 have hbw3 : Below w.heap.size w w3 := hbw2.trans (hb3.mono hbw2.size)
 clear c0 c1 hx2 hbw2 hb3
 have c0 := blk_cell hx3 0 _ rfl
 have c1 := blk_cell hx3 1 _ rfl
 go_wp2_with fail
 refine (phis_ok args bks p c base w3 (HF.out.below hbw3) HR.out.most (fun b hb => (HR.out.small b hb).1) (fun b hb t ht => (HR.out.goes b hb t ht).2) HR.out.phis).mono ?_
 rintro e w4 ⟨rfl, hb4⟩
 have hx4 := (hb4.block _ (lt_of_block hx3)).trans hx3
 have hbw4 : Below w.heap.size w w4 := hbw3.trans (hb4.mono hbw3.size)
 clear c0 c1 hx3 hbw3 hb4
 have c0 := blk_cell hx4 0 _ rfl
 have c1 := blk_cell hx4 1 _ rfl
 go_wp2_with fail
 refine (madeAhead_ok args bks p c base w4 (HF.out.below hbw4) HR.out.most HR.out.some HR.out.small (fun b hb t ht => (HR.out.goes b hb t ht).2) HR.out.ahead).mono ?_
 rintro e w5 ⟨rfl, hb5⟩
 have hbw5 : Below w.heap.size w w5 := hbw4.trans (hb5.mono hbw4.size)
 go_wp2
 go_end0
 exact ⟨rfl, hbw5⟩
theorem Tab.pos {w : World} (h : Tab w) : 0 < w.heap.size := by
 have h1 := h 0 _ (opCells_at 0 (by omega)).1
 cases hh : w.heap[0]? with
 | none => simp [World.cell?, hh] at h1
 | some o => exact lt_of_block hh
theorem Tab.below {w w' : World} (h : Tab w) (hb : Below w.heap.size w w') : Tab w' := by
 intro j v hv
 rw [(bcell hb).1 0 _ h.pos]
 exact h j v hv
theorem read_ok (s : List UInt8) (f : Code.Fn) (w : World) (hs : s.length <= 1500) (ht : Tab w) (hf : Code.FnIs s f) (hr : Code.Right f.blocks) :
  Calls Tryz.prog 37 #[.string (bs s)] w fun e w' =>
   ∃ p c, e = .returned (.agg #[.int .i64 (f.args : Nat), .slice p f.blocks.length c]) /\ RepBlks w' w.heap.size (.slice p f.blocks.length c) f.blocks /\ Below w.heap.size w w' := by
 have e1 := bs_size s
 have hs' : ¬ (1500 : Int) < (s.length : Int) := by omega
 have HF := hide hf
 have HR := hide hr
 have HT := hide ht
 have hp := ht.pos
 clear hf hr ht
 go_enter Tryz.func37, Tryz.ntmps37
 go_wp2_with fail
 generalize hw0 : (w.alloc _).alloc _ = w0
 have hx0 : w0.heap[w.heap.size]? = some (.cells #[.int .i64 0, .slice none 0 0] 78) := by rw [<- hw0]; exact stay_alloc (heap_alloc_new w _)
 have hr0 : RdF w0 (w.heap.size + 1) s 1 0 := by
  have h := heap_alloc_new (w.alloc (.cells #[.int .i64 0, .slice none 0 0] 78)) (.cells #[.string (bs s), .int .i64 1, .int .i64 1, .int .i64 0] 142)
  rw [alloc_size] at h
  rw [<- hw0]; exact h
 have hb0 : Below w.heap.size w w0 := by rw [<- hw0]; exact below_al (below_al (Below.refl _ _) _) _
 clear hw0
 refine (function_ok (w.heap.size + 1) s f 1 0 w0 hr0 (by omega) ⟨by omega, by omega⟩ (HT.out.below hb0) (by omega) HF.out).mono ?_
 rintro e w1 ⟨p, c, rfl, hrep1, hg1⟩
 have hbw1 : Below w.heap.size w w1 := below_of_grown hb0 hg1 (by omega)
 have hx1 := kept_block hx0 hg1 (by omega)
 have HREP : Hid (RepBlks w1 w.heap.size (.slice p f.blocks.length c) f.blocks) := hide (hrep1.mono (fun _ _ _ h => own_base h hb0.size) (fun _ _ _ h => own_base h hb0.size) (fun _ _ _ h => own_base h hb0.size))
 clear hrep1 hg1 hb0 hr0 hx0
 go_wp2_with fail
 generalize hw2 : w1.alloc _ = w2
 have hf2 : w2.heap[w1.heap.size]? = some (.cells #[.int .i64 (f.args : Nat), .slice p f.blocks.length c] 78) := by rw [<- hw2]; exact heap_alloc_new w1 _
 have hb2 : Below w1.heap.size w1 w2 := by rw [<- hw2]; exact below_al (Below.refl _ _) _
 have hx2 := (hb2.block _ (lt_of_block hx1)).trans hx1
 have hxl := lt_of_block hx1
 clear hw2 hx1
 refine (requireRight_ok f.args f.blocks p c w.heap.size w2 (HREP.out.below hb2) HR.out).mono ?_
 rintro e w3 ⟨rfl, hb3⟩
 have hf3 := (hb3.block _ (lt_of_block hf2)).trans hf2
 have hx3 := (hb3.block _ (lt_of_block hx2)).trans hx2
 have hb13 : Below w1.heap.size w1 w3 := hb2.trans (hb3.mono hb2.size)
 have hbw3 : Below w.heap.size w w3 := hbw1.trans (hb13.mono hbw1.size)
 have HREP3 := hide (HREP.out.below hb13)
 generalize hbf : w1.heap.size = b4 at *
 have c0 := blk_cell hf3 0 _ rfl
 have c1 := blk_cell hf3 1 _ rfl
 have d0 := blk_cell hx3 0 _ rfl
 have d1 := blk_cell hx3 1 _ rfl
 have f0 := blk_froz hx3 0
 have f1 := blk_froz hx3 1
 clear hf2 hx2 hb2 hb3 hb13 hbw1 HREP
 go_wp2
 refine bodyPost_ret (v := .agg #[.int .i64 (f.args : Nat), .slice p f.blocks.length c]) (by simp [results, Tryz.results37, go_sem, d0, d1]) rfl ?_
 refine ⟨p, c, rfl, ?_, below_set (below_set hbw3 (Nat.le_refl _) _ _) (Nat.le_refl _) _ _⟩
 have hh := HREP3.out.mono (fun _ _ _ h => own_set (u := .int .i64 (f.args : Nat)) (o := 0) h hx3 (by decide)) (fun _ _ _ h => own_set (o := 0) (u := .int .i64 (f.args : Nat)) h hx3 (by decide)) (fun _ _ _ h => own_set (o := 0) (u := .int .i64 (f.args : Nat)) h hx3 (by decide))
 exact hh.mono (fun _ _ _ h => own_set (u := .slice p f.blocks.length c) (o := 1) h (set_block hx3) (by decide)) (fun _ _ _ h => own_set (o := 1) (u := .slice p f.blocks.length c) h (set_block hx3) (by decide)) (fun _ _ _ h => own_set (o := 1) (u := .slice p f.blocks.length c) h (set_block hx3) (by decide))
theorem RepBlks.set {w : World} {base b o : Nat} {v u : Value} {l : List Code.Blk} (h : RepBlks w base v l) {C : Array Value} {T : TypeId} {z : Nat × Nat} (hb : w.heap[b]? = some (.cells C T z)) (h1 : T ≠ 165) (h2 : T ≠ 169) (h3 : T ≠ 3) :
  RepBlks (w.setCell ⟨b, o, none⟩ u) base v l :=
 h.mono (fun _ _ _ h => own_set h hb h1) (fun _ _ _ h => own_set h hb h2) (fun _ _ _ h => own_set h hb h3)
theorem nilNe (w : World) : (binOp .neq 20 .nilIface .nilIface).run Tryz.prog w = .ok (.bool false) w := by kernel_rfl
theorem catch_idle (p : Addr) (w : World) :
  CallsD Tryz.prog 84 #[.pointer (some p)] .returning w fun e u' w' => e = .returned (.tuple #[]) /\ u' = .returning /\ w' = w := by
 refine callsD_of_wpS Tryz.func84 rfl fun c₀ cs hu => ?_
 apply wpS_seq
 apply wpS_region
 simp [wpOpsS, go_sem, recoverD, hu, Tryz.ntmps84, Exit.thenS]
 apply wpS_seq
 apply wpS_region
 simp [wpOpsS, go_sem, nilNe, Exit.thenS]
 refine wpS_cond (t := false) (by simp [Act.eval, Array.replicate]) ?_
 simp only [Bool.false_eq_true, if_false]
 refine wpS_of_wp (wp_skip ?_)
 cases c₀
 simp_all [bodyPostS, results, Tryz.results84]
theorem irRead_ok (s : List UInt8) (f : Code.Fn) (w : World) (hs : s.length <= 1500) (ht : Tab w) (hf : Code.FnIs s f) (hr : Code.Right f.blocks) :
  Calls Tryz.prog 40 #[.string (bs s)] w fun e w' =>
   ∃ p c, e = .returned (.tuple #[.agg #[.int .i64 (f.args : Nat), .slice p f.blocks.length c], .int .i64 0]) /\ RepBlks w' w.heap.size (.slice p f.blocks.length c) f.blocks /\ Below w.heap.size w w' := by
 have hmf : ∀ (fn : Fn) (first cap : Array Value) (w : World), (Instr.makeFunc fn first cap).run Tryz.prog w = .ok (.func fn first cap) w := fun _ _ _ _ => rfl
 have HF := hide hf
 have HR := hide hr
 have HT := hide ht
 have hp := ht.pos
 clear hf hr ht
 go_enter_defers Tryz.func40, Tryz.ntmps40
 go_wp2_with fail
 generalize hw0 : (w.alloc _).alloc _ = w0
 have hx0 : w0.heap[w.heap.size]? = some (.cells #[.int .i64 0, .slice none 0 0] 78) := by rw [<- hw0]; exact stay_alloc (heap_alloc_new w _)
 have hy0 : w0.heap[w.heap.size + 1]? = some (.cells #[.int .i64 0] 23) := by
  have h := heap_alloc_new (w.alloc (.cells #[.int .i64 0, .slice none 0 0] 78)) (.cells #[.int .i64 0] 23)
  rw [alloc_size] at h
  rw [<- hw0]; exact h
 have hb0 : Below w.heap.size w w0 := by rw [<- hw0]; exact below_al (below_al (Below.refl _ _) _) _
 clear hw0
 refine (read_ok s f w0 hs (HT.out.below hb0) HF.out HR.out).mono ?_
 rintro e w1 ⟨p, c, rfl, hrep, hb1⟩
 have hx1 := (hb1.block _ (lt_of_block hx0)).trans hx0
 have hy1 := (hb1.block _ (lt_of_block hy0)).trans hy0
 have hbw1 : Below w.heap.size w w1 := hb0.trans (hb1.mono hb0.size)
 have HREP : Hid (RepBlks w1 w.heap.size (.slice p f.blocks.length c) f.blocks) := hide (hrep.mono (fun _ _ _ h => own_base h hb0.size) (fun _ _ _ h => own_base h hb0.size) (fun _ _ _ h => own_base h hb0.size))
 have d0 := blk_cell hx1 0 _ rfl
 have d1 := blk_cell hx1 1 _ rfl
 have f0 := blk_froz hx1 0
 have f1 := blk_froz hx1 1
 have e0 := blk_cell hy1 0 _ rfl
 have ef := blk_froz hy1 0
 clear hx0 hy0 hb0 hb1 hrep
 go_wp2
 refine leaves_cons (f := 84) (args := #[.pointer (some ⟨w.heap.size + 1, 0, none⟩)]) (by simp) (by simp [go_sem]) ?_
 refine (catch_idle ⟨w.heap.size + 1, 0, none⟩ _).mono ?_
 rintro e u' w'' ⟨rfl, rfl, rfl⟩
 refine ⟨_, by simp [results, Tryz.results40, go_sem, d0, d1, e0]; rfl, ?_⟩
 refine ⟨p, c, rfl, ?_, below_set (below_set (below_set hbw1 (Nat.le_refl _) _ _) (Nat.le_refl _) _ _) (Nat.le_succ _) _ _⟩
 have hne : w.heap.size + 1 ≠ w.heap.size := by omega
 exact ((HREP.out.set hx1 (by decide) (by decide) (by decide)).set (set_block hx1) (by decide) (by decide) (by decide)).set (stay_set (stay_set hy1 hne) hne) (by decide) (by decide) (by decide)
theorem held_mono {P : Program} {md : Region.Mode} {ops : Array Oper} {Q : Exit -> Act -> World -> Prop} {S S' : World -> Prop} (hS : ∀ w, S' w -> S w) :
  ∀ (fuel : Nat) (listed : Array Bool) (a : Act) (w : World), wpAnyH P md ops Q S' fuel listed a w -> wpAnyH P md ops Q S fuel listed a w
 | 0, _, _, _, h => h
 | fuel + 1, _, _, _, h => ⟨h.1, fun i hi => wpOp_mono (fun a' w' h' => ⟨hS _ h'.1, held_mono hS fuel _ a' w' h'.2⟩) (h.2 i hi)⟩
theorem own_cap {w : World} {base e size n c : Nat} {p : Option Addr} {xs : List Value} (h : w.ownsRow base e size (.slice p n c) n xs) : n <= c := by
 rcases h.2 with ⟨h1, h2⟩ | ⟨g, cap, cur, hv, _, _, hc, _⟩
 ·omega
 ·simp only [Value.slice.injEq] at hv
  omega
namespace Code
end Code
theorem bcell' {B : Nat} {W w1 : World} (hb : Below B W w1) (b o : Nat) (h : b < B) (v : Value) (hc : W.cell? ⟨b, o, none⟩ = some v) : w1.cell? ⟨b, o, none⟩ = some v := ((bcell hb).1 b o h).trans hc
end Go.Proofs.YtedkjanogjglkaaGreatDoor
namespace Go.Proofs.YtedkjanogjglkaaGreatDoor.Code
open Go.Proofs.YtedkjanogjglkaaGreatDoor.Ref (dec ch digits)
theorem ch_toNat (k : Nat) (h : k < 10) : (ch k).toNat = 48 + k := by
 match k, h with
 | 0, _ | 1, _ | 2, _ | 3, _ | 4, _ | 5, _ | 6, _ | 7, _ | 8, _ | 9, _ => rfl
theorem ch_in (k : Nat) (h : k < 10) : isIn 48 57 (ch k) = true := by
 match k, h with
 | 0, _ | 1, _ | 2, _ | 3, _ | 4, _ | 5, _ | 6, _ | 7, _ | 8, _ | 9, _ => rfl
theorem dec_in (n : Nat) : ∀ c ∈ dec n, isIn 48 57 c = true := by
 induction n using Nat.strongRecOn with
 | _ n ih =>
  intro c hc
  by_cases h : 10 <= n
  ·rw [Ref.dec_big h] at hc
   rcases List.mem_append.1 hc with hc | hc
   ·exact ih (n / 10) (by omega) c hc
   ·rw [List.mem_singleton.1 hc]; exact ch_in _ (by omega)
  ·rw [Ref.dec_small (by omega)] at hc
   rw [List.mem_singleton.1 hc]; exact ch_in _ (by omega)
theorem dec_fold (n : Nat) : numFold 0 (dec n) = n := by
 induction n using Nat.strongRecOn with
 | _ n ih =>
  by_cases h : 10 <= n
  ·rw [Ref.dec_big h, numFold_snoc, ih (n / 10) (by omega), ch_toNat _ (by omega)]; omega
  ·rw [Ref.dec_small (by omega)]
   show 10 * 0 + ((ch (n % 10)).toNat - 48) = n
   rw [ch_toNat _ (by omega)]; omega
theorem dec_len (n k : Nat) (hk : 0 < k) (h : n < 10 ^ k) : (dec n).length <= k := by
 induction n using Nat.strongRecOn generalizing k with
 | _ n ih =>
  by_cases h10 : 10 <= n
  ·cases k with
   | zero => omega
   | succ k =>
    have hk2 : 0 < k := by
     cases k with
     | zero => omega
     | succ k => omega
    rw [Nat.pow_succ] at h
    have := ih (n / 10) (by omega) k hk2 (by omega)
    rw [Ref.dec_big h10, List.length_append]
    simpa using this
  ·rw [Ref.dec_small (by omega)]; exact hk
theorem dec_pos (n : Nat) : dec n ≠ [] := by
 by_cases h : 10 <= n
 ·rw [Ref.dec_big h]; simp
 ·rw [Ref.dec_small (by omega)]; simp
theorem dec_head (n : Nat) (h : 0 < n) : ∃ c r, dec n = c :: r /\ 49 <= c.toNat := by
 induction n using Nat.strongRecOn with
 | _ n ih =>
  by_cases h10 : 10 <= n
  ·obtain ⟨c, r, e, hc⟩ := ih (n / 10) (by omega) (by omega)
   exact ⟨c, r ++ [ch (n % 10)], by rw [Ref.dec_big h10, e]; rfl, hc⟩
  ·exact ⟨ch (n % 10), [], Ref.dec_small (by omega), by rw [ch_toNat _ (by omega)]; omega⟩
theorem dec_good (n : Nat) (h : n < 10 ^ 10) : ¬ badDigits (dec n) := by
 rintro (hb | hb | ⟨hb, hb'⟩)
 ·exact dec_pos n hb
 ·have := dec_len n 10 (by omega) h
  omega
 ·by_cases h0 : 0 < n
  ·obtain ⟨c, r, e, hc⟩ := dec_head n h0
   rw [e] at hb
   simp only [List.head?_cons, Option.some.injEq] at hb
   subst hb
   revert hc; decide
  ·obtain rfl : n = 0 := by omega
   exact hb' rfl
def Stop (r : List UInt8) : Prop := r.takeWhile (isIn 48 57) = []
theorem stop_cons {c : UInt8} {r : List UInt8} (h : isIn 48 57 c = false) : Stop (c :: r) := by
 unfold Stop; rw [List.takeWhile_cons_of_neg (by rw [h]; simp)]
theorem dropWhile_of_stop {r : List UInt8} (h : Stop r) : r.dropWhile (isIn 48 57) = r := by
 have := run_rest 48 57 r
 unfold run rest at this
 rw [h] at this
 exact this
theorem number_dec (n : Nat) (r : List UInt8) (h : n < 10 ^ 10) (hr : Stop r) : number (dec n ++ r) = some (n, r) := by
 have e1 : run 48 57 (dec n ++ r) = dec n := by
  unfold run
  rw [List.takeWhile_append_of_pos (dec_in n), hr, List.append_nil]
 have e2 : rest 48 57 (dec n ++ r) = r := by
  unfold rest
  rw [List.dropWhile_append_of_pos (dec_in n), dropWhile_of_stop hr]
 unfold number
 rw [e1, e2, if_neg (dec_good n h), dec_fold]
theorem value_dec (n : Nat) (r : List UInt8) (h : n < 60) (hr : Stop r) : value (118 :: (dec n ++ r)) = some (n, r) := by
 have e : cut [118] (118 :: (dec n ++ r)) = some (dec n ++ r) := cut_app [118] _
 unfold value
 rw [e, Option.bind_some]
 unfold below
 rw [number_dec n r (by omega) hr, Option.bind_some, if_pos (by show (n : Int) < 60; omega)]
theorem cut_not {c d : UInt8} {r : List UInt8} (h : c ≠ d) : cut [d] (c :: r) = none := by
 apply cut_none_of
 simp only [List.length_cons, List.length_nil, List.take_succ_cons, List.take_zero]
 intro hh
 exact h (List.cons.inj hh).1
theorem signed_digits (n : Int) (r : List UInt8) (h : -2147483648 <= n) (h' : n < 2147483648) (hr : Stop r) : signed (digits n ++ r) = some (n, r) := by
 unfold digits
 by_cases hn : n < 0
 ·rw [if_pos hn]
  have e : cut [45] (45 :: dec (-n).toNat ++ r) = some (dec (-n).toNat ++ r) := cut_app [45] _
  unfold signed
  rw [e]
  show (number _).bind _ = _
  rw [number_dec _ r (by omega) hr, Option.bind_some]
  unfold signedOf
  rw [if_neg (by rintro ⟨_, h0⟩; simp only at h0; omega)]
  simp only [if_true]
  have e2 : -(((-n).toNat : Nat) : Int) = n := by omega
  rw [e2, if_neg (by omega)]
 ·rw [if_neg hn]
  have e : cut [45] (dec n.toNat ++ r) = none := by
   cases hd : dec n.toNat with
   | nil => exact absurd hd (dec_pos _)
   | cons c t =>
    have hc := dec_in n.toNat c (by rw [hd]; exact List.mem_cons_self)
    refine cut_not (r := t ++ r) ?_
    rintro rfl
    revert hc; decide
  unfold signed
  rw [e]
  show (number _).bind _ = _
  rw [number_dec _ r (by omega) hr, Option.bind_some]
  unfold signedOf
  rw [if_neg (by rintro ⟨h0, _⟩; cases h0)]
  have e2 : ((n.toNat : Nat) : Int) = n := by omega
  simp only [Bool.false_eq_true, if_false]
  rw [e2, if_neg (by omega)]
def nameOf (k : Nat) : List UInt8 := (ops.getD k ([], 0, 0)).1
def ofText : List Nat -> List UInt8
 | [] => []
 | x :: l => 32 :: 118 :: (dec x ++ ofText l)
def textT : Thing -> List UInt8
 | .phi _ => []
 | .arg n => [97, 114, 103, 32] ++ dec n
 | .const c => [99, 111, 110, 115, 116, 32] ++ digits c
 | .apply k of => nameOf k ++ ofText of
def lineOf (v : Val) : List UInt8 := 118 :: (dec v.num ++ ([32, 61, 32] ++ (textT v.thing ++ [10])))
def GoodT (args : Nat) : Thing -> Prop
 | .phi _ => False
 | .arg n => n < args
 | .const c => -2147483648 <= c /\ c < 2147483648
 | .apply k of => k < 13 /\ of.length = opOf k /\ ∀ x ∈ of, x < 60
theorem stop32 (r : List UInt8) : Stop (32 :: r) := stop_cons rfl
theorem stop10 (r : List UInt8) : Stop (10 :: r) := stop_cons rfl
theorem ofText_stop (of : List Nat) (r : List UInt8) : Stop (ofText of ++ 10 :: r) := by
 cases of with
 | nil => exact stop10 r
 | cons x l => exact stop32 _
theorem ofN_text : ∀ (of : List Nat) (r : List UInt8), (∀ x ∈ of, x < 60) -> ofN of.length (ofText of ++ 10 :: r) = some (of, 10 :: r)
 | [], r, _ => rfl
 | x :: l, r, h => by
  have e : cut [32] (32 :: (118 :: (dec x ++ (ofText l ++ 10 :: r)))) = some (118 :: (dec x ++ (ofText l ++ 10 :: r))) := cut_app [32] _
  have ih := ofN_text l r (fun y hy => h y (List.mem_cons_of_mem _ hy))
  show (cut [32] (ofText (x :: l) ++ 10 :: r)).bind _ = _
  have e0 : ofText (x :: l) ++ 10 :: r = 32 :: (118 :: (dec x ++ (ofText l ++ 10 :: r))) := by simp [ofText]
  rw [e0, e, Option.bind_some, value_dec x _ (h x List.mem_cons_self) (ofText_stop l r), Option.bind_some, ih]
  rfl
theorem apply_text (k : Nat) (hk : k < 13) (of : List Nat) (h : of.length = opOf k) (ho : ∀ x ∈ of, x < 60) (args : Nat) (r : List UInt8) :
  ThingOf args (nameOf k ++ (ofText of ++ 10 :: r)) (some (.apply k of, 10 :: r)) := by
 have hof := ofN_text of r ho
 rw [h] at hof
 have hne : ∃ t, ofText of ++ 10 :: r = 32 :: t := by
  cases of with
  | nil =>
   exfalso
   revert h
   match k, hk with
   | 0, _ | 1, _ | 2, _ | 3, _ | 4, _ | 5, _ | 6, _ | 7, _ | 8, _ | 9, _ | 10, _ | 11, _ | 12, _ => decide
  | cons x l => exact ⟨_, rfl⟩
 obtain ⟨t, ht⟩ := hne
 rw [ht] at hof ⊢
 have hw : word (nameOf k ++ 32 :: t) = nameOf k /\ behind (nameOf k ++ 32 :: t) = 32 :: t /\ opNamed (nameOf k) = some k /\ nameOf k ≠ sPhi /\ nameOf k ≠ sArg /\ nameOf k ≠ sConst := by
  match k, hk with
  | 0, _ | 1, _ | 2, _ | 3, _ | 4, _ | 5, _ | 6, _ | 7, _ | 8, _ | 9, _ | 10, _ | 11, _ | 12, _ => exact ⟨rfl, rfl, rfl, by decide, by decide, by decide⟩
 obtain ⟨h1, h2, h3, h4, h5, h6⟩ := hw
 have hT := ThingOf.apply (args := args) (s := nameOf k ++ 32 :: t) (by rw [h1]; exact h4) (by rw [h1]; exact h5) (by rw [h1]; exact h6)
 rw [h1, h2] at hT
 unfold apply at hT
 rw [h3, Option.bind_some, hof] at hT
 exact hT
theorem thing_text (args : Nat) (t : Thing) (h : GoodT args t) (ha : args <= 60) (r : List UInt8) : ThingOf args (textT t ++ 10 :: r) (some (t, 10 :: r)) := by
 cases t with
 | phi of => exact absurd h id
 | arg n =>
  have hT := ThingOf.arg (args := args) (s := [97, 114, 103, 32] ++ (dec n ++ 10 :: r)) rfl
  have e1 : behind ([97, 114, 103, 32] ++ (dec n ++ 10 :: r)) = 32 :: (dec n ++ 10 :: r) := rfl
  have e2 : cut [32] (32 :: (dec n ++ 10 :: r)) = some (dec n ++ 10 :: r) := cut_app [32] _
  rw [e1, e2, Option.bind_some] at hT
  unfold below at hT
  have hn : n < args := h
  rw [number_dec n _ (by omega) (stop10 r), Option.bind_some, if_pos (by show (n : Int) < (args : Int); omega)] at hT
  show ThingOf args (([97, 114, 103, 32] ++ dec n) ++ 10 :: r) _
  rw [List.append_assoc]
  exact hT
 | const c =>
  have hT := ThingOf.const (args := args) (s := [99, 111, 110, 115, 116, 32] ++ (digits c ++ 10 :: r)) rfl
  have e1 : behind ([99, 111, 110, 115, 116, 32] ++ (digits c ++ 10 :: r)) = 32 :: (digits c ++ 10 :: r) := rfl
  have e2 : cut [32] (32 :: (digits c ++ 10 :: r)) = some (digits c ++ 10 :: r) := cut_app [32] _
  rw [e1, e2, Option.bind_some, signed_digits c _ h.1 h.2 (stop10 r)] at hT
  show ThingOf args (([99, 111, 110, 115, 116, 32] ++ digits c) ++ 10 :: r) _
  rw [List.append_assoc]
  exact hT
 | apply k of =>
  show ThingOf args ((nameOf k ++ ofText of) ++ 10 :: r) _
  rw [List.append_assoc]
  exact apply_text k h.1 of h.2.1 h.2.2 args r
theorem good_phi {args : Nat} {t : Thing} (h : GoodT args t) : t.isPhi = false := by
 cases t with
 | phi of => exact absurd h id
 | _ => rfl
def linesOf (l : List Val) : List UInt8 := l.flatMap lineOf
theorem values_text (args : Nat) (ha : args <= 60) : ∀ (l : List Val) (b : Bool) (r : List UInt8), (∀ v ∈ l, v.num < 60 /\ GoodT args v.thing) -> cut [118] r = none -> ValuesOf args b (linesOf l ++ r) (some (l, r))
 | [], b, r, _, hr => ValuesOf.done hr
 | v :: l, b, r, h, hr => by
  obtain ⟨hv, hg⟩ := h v List.mem_cons_self
  have ih := values_text args ha l v.thing.isPhi r (fun x hx => h x (List.mem_cons_of_mem _ hx)) hr
  have e : linesOf (v :: l) ++ r = 118 :: (dec v.num ++ ([32, 61, 32] ++ (textT v.thing ++ 10 :: (linesOf l ++ r)))) := by simp [linesOf, lineOf]
  rw [e]
  have h1 : cut [118] (118 :: (dec v.num ++ ([32, 61, 32] ++ (textT v.thing ++ 10 :: (linesOf l ++ r))))) = some _ := cut_app [118] _
  have h2 := value_dec v.num ([32, 61, 32] ++ (textT v.thing ++ 10 :: (linesOf l ++ r))) hv (stop32 _)
  have h3 := cut_app [32, 61, 32] (textT v.thing ++ 10 :: (linesOf l ++ r))
  have h4 := thing_text args v.thing hg ha (linesOf l ++ r)
  have h5 : cut [10] (10 :: (linesOf l ++ r)) = some _ := cut_app [10] _
  exact ValuesOf.more h1 h2 h3 h4 (fun hp => by rw [good_phi hg] at hp; cases hp) h5 ih
def oneBlock (l : List Val) (v : Nat) : List UInt8 := [98, 48, 58, 10] ++ (linesOf l ++ ([114, 101, 116, 32, 118] ++ (dec v ++ [10])))
theorem block_text (args : Nat) (ha : args <= 60) (l : List Val) (v : Nat) (h : ∀ v ∈ l, v.num < 60 /\ GoodT args v.thing) (hv : v < 60) : BlockIs args 0 (oneBlock l v) ⟨l, .ret v⟩ [] := by
 have h5 := values_text args ha l true ([114, 101, 116, 32, 118] ++ (dec v ++ [10])) h (cut_not (by decide))
 have h6 : last ([114, 101, 116, 32, 118] ++ (dec v ++ [10])) = some (.ret v, [10]) := by
  have e0 : word ([114, 101, 116, 32, 118] ++ (dec v ++ [10])) = sRet := rfl
  have e1 : behind ([114, 101, 116, 32, 118] ++ (dec v ++ [10])) = 32 :: (118 :: (dec v ++ [10])) := rfl
  have e2 : cut [32] (32 :: (118 :: (dec v ++ [10]))) = some (118 :: (dec v ++ [10])) := cut_app [32] _
  unfold last
  rw [if_pos e0, e1, e2, Option.bind_some, value_dec v [10] hv (stop10 [])]
  rfl
 exact BlockIs.mk (r1 := [48, 58, 10] ++ (linesOf l ++ ([114, 101, 116, 32, 118] ++ (dec v ++ [10])))) (r2 := [58, 10] ++ (linesOf l ++ ([114, 101, 116, 32, 118] ++ (dec v ++ [10])))) (cut_app [98] _) (by
  unfold below
  have := number_dec 0 ([58, 10] ++ (linesOf l ++ ([114, 101, 116, 32, 118] ++ (dec v ++ [10])))) (by omega) (stop_cons rfl)
  have e : dec 0 ++ ([58, 10] ++ (linesOf l ++ ([114, 101, 116, 32, 118] ++ (dec v ++ [10])))) = [48, 58, 10] ++ (linesOf l ++ ([114, 101, 116, 32, 118] ++ (dec v ++ [10]))) := rfl
  rw [e] at this
  rw [this]
  rfl) (cut_app [58] _) (cut_app [10] _) h5 h6 (cut_app [10] [])
end Go.Proofs.YtedkjanogjglkaaGreatDoor.Code
namespace Go.Proofs.YtedkjanogjglkaaGreatDoor
open Go.RowKit
theorem faultOf_any (why l : Int) (w : World) :
  Calls Tryz.prog 57 #[.iface 61 (.agg #[.int .i64 why, .int .i64 l])] w fun e w' => e = .returned (.agg #[.int .i64 why, .int .i64 l]) /\ Below w.heap.size w w' := by
 have hta : ∀ (v : Value) (w : World), (Instr.typeAssert (.iface 61 v) 20 61 true).run Tryz.prog w = .ok (.tuple #[v, .bool true]) w := fun v w => by kernel_rfl
 go_enter Tryz.func57, Tryz.ntmps57
 go_wp2
 refine bodyPost_ret (v := .agg #[.int .i64 why, .int .i64 l]) (by simp [results, Tryz.results57, go_sem]) rfl ?_
 exact ⟨rfl, below_al (below_al (Below.refl _ _) _) _⟩
theorem someNe (v : Value) (w : World) : (binOp .neq 20 (.iface 61 v) .nilIface).run Tryz.prog w = .ok (.bool true) w := by kernel_rfl
namespace Code
end Code
namespace Code
def truth (b : Bool) : Int := if b then 1 else 0
def reckon : Nat -> Int -> Int -> Option Int
 | 0, a, b => some (wrap32 (a + b))
 | 1, a, b => some (wrap32 (a - b))
 | 2, a, b => some (wrap32 (a * b))
 | 3, a, b => if b = 0 then none else some (wrap32 (a.tdiv b))
 | 4, a, b => some (bits .and .i32 a b)
 | 5, a, b => some (bits .or .i32 a b)
 | 6, a, b => some (bits .xor .i32 a b)
 | 7, a, b => some (wrap32 (a * 2 ^ (b % 32).toNat))
 | 8, a, b => some (a / 2 ^ (b % 32).toNat)
 | 9, a, b => some (truth (a == b))
 | 10, a, b => some (truth (decide (a < b)))
 | 11, a, _ => some (wrap32 (-a))
 | _, a, _ => some (bits .xor .i32 (-1) a)
end Code
theorem u32_and31 (n : Int) : bits .and .u32 n 31 = n % 32 := by
 have low : ∀ m : Nat, m &&& 31 = m % 32 := fun m => Nat.and_two_pow_sub_one_eq_mod m 5
 have said : bits .and .u32 n 31 = IntKind.u32.wrap (((BitVec.ofInt 32 n).toNat &&& 31 : Nat) : Int) := rfl
 rw [said, low, BitVec.toNat_ofInt]
 have : IntKind.u32.wrap ((((n % ((2 ^ 32 : Nat) : Int)).toNat % 32 : Nat)) : Int) = ((((n % ((2 ^ 32 : Nat) : Int)).toNat % 32 : Nat)) : Int) := by
  show (((((n % ((2 ^ 32 : Nat) : Int)).toNat % 32 : Nat)) : Int)) % 4294967296 = _
  omega
 rw [this]
 omega
theorem op0 (a b : Int) (w : World) (_ha : -2147483648 <= a) (_ha' : a < 2147483648) (_hb : -2147483648 <= b) (_hb' : b < 2147483648) :
  Calls Tryz.prog 212 #[.int .i64 0, .int .i32 a, .int .i32 b] w fun e w' => e = .returned (.tuple #[.int .i32 (wrap32 (a + b)), .bool true]) /\ w' = w := by
 go_enter Tryz.func212, Tryz.ntmps212
 go_wp2
 go_ret2
 exact ⟨rfl, rfl⟩
theorem op1 (a b : Int) (w : World) (_ha : -2147483648 <= a) (_ha' : a < 2147483648) (_hb : -2147483648 <= b) (_hb' : b < 2147483648) :
  Calls Tryz.prog 212 #[.int .i64 1, .int .i32 a, .int .i32 b] w fun e w' => e = .returned (.tuple #[.int .i32 (wrap32 (a - b)), .bool true]) /\ w' = w := by
 go_enter Tryz.func212, Tryz.ntmps212
 go_wp2
 go_ret2
 exact ⟨rfl, rfl⟩
theorem op2 (a b : Int) (w : World) (_ha : -2147483648 <= a) (_ha' : a < 2147483648) (_hb : -2147483648 <= b) (_hb' : b < 2147483648) :
  Calls Tryz.prog 212 #[.int .i64 2, .int .i32 a, .int .i32 b] w fun e w' => e = .returned (.tuple #[.int .i32 (wrap32 (a * b)), .bool true]) /\ w' = w := by
 go_enter Tryz.func212, Tryz.ntmps212
 go_wp2
 go_ret2
 exact ⟨rfl, rfl⟩
theorem op3 (a b : Int) (w : World) (_ha : -2147483648 <= a) (_ha' : a < 2147483648) (_hb : -2147483648 <= b) (_hb' : b < 2147483648) (hz : ¬ b = 0) :
  Calls Tryz.prog 212 #[.int .i64 3, .int .i32 a, .int .i32 b] w fun e w' => e = .returned (.tuple #[.int .i32 (wrap32 (a.tdiv b)), .bool true]) /\ w' = w := by
 go_enter Tryz.func212, Tryz.ntmps212
 go_wp2
 go_ret2
 exact ⟨rfl, rfl⟩
theorem op3z (a : Int) (w : World) :
  Calls Tryz.prog 212 #[.int .i64 3, .int .i32 a, .int .i32 0] w fun e w' => e = .returned (.tuple #[.int .i32 0, .bool false]) /\ w' = w := by
 go_enter Tryz.func212, Tryz.ntmps212
 go_wp2
 go_ret2
 exact ⟨rfl, rfl⟩
theorem op4 (a b : Int) (w : World) (_ha : -2147483648 <= a) (_ha' : a < 2147483648) (_hb : -2147483648 <= b) (_hb' : b < 2147483648) :
  Calls Tryz.prog 212 #[.int .i64 4, .int .i32 a, .int .i32 b] w fun e w' => e = .returned (.tuple #[.int .i32 (bits .and .i32 a b), .bool true]) /\ w' = w := by
 go_enter Tryz.func212, Tryz.ntmps212
 go_wp2
 go_ret2
 exact ⟨rfl, rfl⟩
theorem op5 (a b : Int) (w : World) (_ha : -2147483648 <= a) (_ha' : a < 2147483648) (_hb : -2147483648 <= b) (_hb' : b < 2147483648) :
  Calls Tryz.prog 212 #[.int .i64 5, .int .i32 a, .int .i32 b] w fun e w' => e = .returned (.tuple #[.int .i32 (bits .or .i32 a b), .bool true]) /\ w' = w := by
 go_enter Tryz.func212, Tryz.ntmps212
 go_wp2
 go_ret2
 exact ⟨rfl, rfl⟩
theorem op6 (a b : Int) (w : World) (_ha : -2147483648 <= a) (_ha' : a < 2147483648) (_hb : -2147483648 <= b) (_hb' : b < 2147483648) :
  Calls Tryz.prog 212 #[.int .i64 6, .int .i32 a, .int .i32 b] w fun e w' => e = .returned (.tuple #[.int .i32 (bits .xor .i32 a b), .bool true]) /\ w' = w := by
 go_enter Tryz.func212, Tryz.ntmps212
 go_wp2
 go_ret2
 exact ⟨rfl, rfl⟩
theorem op7 (a b : Int) (w : World) (_ha : -2147483648 <= a) (_ha' : a < 2147483648) (_hb : -2147483648 <= b) (_hb' : b < 2147483648) :
  Calls Tryz.prog 212 #[.int .i64 7, .int .i32 a, .int .i32 b] w fun e w' => e = .returned (.tuple #[.int .i32 (wrap32 (a * 2 ^ (b % 32).toNat)), .bool true]) /\ w' = w := by
 have h31 := u32_and31 (b % 4294967296)
 rw [show b % 4294967296 % 32 = b % 32 by omega] at h31
 obtain ⟨c, hc⟩ : ∃ c : Nat, b % 32 = (c : Int) := ⟨(b % 32).toNat, by omega⟩
 have hc2 : c < 32 := by omega
 rw [hc] at h31 ⊢
 rw [Int.toNat_natCast]
 clear hc
 go_enter Tryz.func212, Tryz.ntmps212
 go_wp2
 go_ret2
 exact ⟨rfl, rfl⟩
theorem op8 (a b : Int) (w : World) (_ha : -2147483648 <= a) (_ha' : a < 2147483648) (_hb : -2147483648 <= b) (_hb' : b < 2147483648) :
  Calls Tryz.prog 212 #[.int .i64 8, .int .i32 a, .int .i32 b] w fun e w' => e = .returned (.tuple #[.int .i32 (a / 2 ^ (b % 32).toNat), .bool true]) /\ w' = w := by
 have h31 := u32_and31 (b % 4294967296)
 rw [show b % 4294967296 % 32 = b % 32 by omega] at h31
 obtain ⟨c, hc⟩ : ∃ c : Nat, b % 32 = (c : Int) := ⟨(b % 32).toNat, by omega⟩
 have hc2 : c < 32 := by omega
 rw [hc] at h31 ⊢
 rw [Int.toNat_natCast]
 clear hc
 go_enter Tryz.func212, Tryz.ntmps212
 go_wp2
 go_ret2
 exact ⟨rfl, rfl⟩
theorem op9 (a b : Int) (w : World) (_ha : -2147483648 <= a) (_ha' : a < 2147483648) (_hb : -2147483648 <= b) (_hb' : b < 2147483648) :
  Calls Tryz.prog 212 #[.int .i64 9, .int .i32 a, .int .i32 b] w fun e w' => e = .returned (.tuple #[.int .i32 (Code.truth (a == b)), .bool true]) /\ w' = w := by
 cases hq : (a == b)
 all_goals
  go_enter Tryz.func212, Tryz.ntmps212
  go_wp2
  go_ret2
  exact ⟨by simp [Code.truth], rfl⟩
theorem op10 (a b : Int) (w : World) (_ha : -2147483648 <= a) (_ha' : a < 2147483648) (_hb : -2147483648 <= b) (_hb' : b < 2147483648) :
  Calls Tryz.prog 212 #[.int .i64 10, .int .i32 a, .int .i32 b] w fun e w' => e = .returned (.tuple #[.int .i32 (Code.truth (decide (a < b))), .bool true]) /\ w' = w := by
 by_cases hq : a < b
 all_goals
  go_enter Tryz.func212, Tryz.ntmps212
  go_wp2
  go_ret2
  exact ⟨by simp [Code.truth, hq], rfl⟩
theorem op11 (a b : Int) (w : World) (_ha : -2147483648 <= a) (_ha' : a < 2147483648) (_hb : -2147483648 <= b) (_hb' : b < 2147483648) :
  Calls Tryz.prog 212 #[.int .i64 11, .int .i32 a, .int .i32 b] w fun e w' => e = .returned (.tuple #[.int .i32 (wrap32 (-a)), .bool true]) /\ w' = w := by
 go_enter Tryz.func212, Tryz.ntmps212
 go_wp2
 go_ret2
 exact ⟨rfl, rfl⟩
theorem op12 (a b : Int) (w : World) (_ha : -2147483648 <= a) (_ha' : a < 2147483648) (_hb : -2147483648 <= b) (_hb' : b < 2147483648) :
  Calls Tryz.prog 212 #[.int .i64 12, .int .i32 a, .int .i32 b] w fun e w' => e = .returned (.tuple #[.int .i32 (bits .xor .i32 (-1) a), .bool true]) /\ w' = w := by
 go_enter Tryz.func212, Tryz.ntmps212
 go_wp2
 go_ret2
 exact ⟨rfl, rfl⟩
theorem reckon_any (k : Nat) (hk : k < 13) (a b : Int) (w : World) (ha : -2147483648 <= a) (ha' : a < 2147483648) (hb : -2147483648 <= b) (hb' : b < 2147483648) :
  Calls Tryz.prog 212 #[.int .i64 (k : Nat), .int .i32 a, .int .i32 b] w fun e w' =>
   ((∃ n, Code.reckon k a b = some n /\ e = .returned (.tuple #[.int .i32 n, .bool true])) \/ (Code.reckon k a b = none /\ e = .returned (.tuple #[.int .i32 0, .bool false]))) /\ w' = w := by
 match k, hk with
 | 0, _ => exact (op0 a b w ha ha' hb hb').mono fun e w' h => ⟨Or.inl ⟨_, rfl, h.1⟩, h.2⟩
 | 1, _ => exact (op1 a b w ha ha' hb hb').mono fun e w' h => ⟨Or.inl ⟨_, rfl, h.1⟩, h.2⟩
 | 2, _ => exact (op2 a b w ha ha' hb hb').mono fun e w' h => ⟨Or.inl ⟨_, rfl, h.1⟩, h.2⟩
 | 4, _ => exact (op4 a b w ha ha' hb hb').mono fun e w' h => ⟨Or.inl ⟨_, rfl, h.1⟩, h.2⟩
 | 5, _ => exact (op5 a b w ha ha' hb hb').mono fun e w' h => ⟨Or.inl ⟨_, rfl, h.1⟩, h.2⟩
 | 6, _ => exact (op6 a b w ha ha' hb hb').mono fun e w' h => ⟨Or.inl ⟨_, rfl, h.1⟩, h.2⟩
 | 7, _ => exact (op7 a b w ha ha' hb hb').mono fun e w' h => ⟨Or.inl ⟨_, rfl, h.1⟩, h.2⟩
 | 8, _ => exact (op8 a b w ha ha' hb hb').mono fun e w' h => ⟨Or.inl ⟨_, rfl, h.1⟩, h.2⟩
 | 9, _ => exact (op9 a b w ha ha' hb hb').mono fun e w' h => ⟨Or.inl ⟨_, rfl, h.1⟩, h.2⟩
 | 10, _ => exact (op10 a b w ha ha' hb hb').mono fun e w' h => ⟨Or.inl ⟨_, rfl, h.1⟩, h.2⟩
 | 11, _ => exact (op11 a b w ha ha' hb hb').mono fun e w' h => ⟨Or.inl ⟨_, rfl, h.1⟩, h.2⟩
 | 12, _ => exact (op12 a b w ha ha' hb hb').mono fun e w' h => ⟨Or.inl ⟨_, rfl, h.1⟩, h.2⟩
 | 3, _ =>
  by_cases hz : b = 0
  ·subst hz
   exact (op3z a w).mono fun e w' h => ⟨Or.inr ⟨rfl, h.1⟩, h.2⟩
  ·exact (op3 a b w ha ha' hb hb' hz).mono fun e w' h => ⟨Or.inl ⟨_, by simp [Code.reckon, hz], h.1⟩, h.2⟩
end Go.Proofs.YtedkjanogjglkaaGreatDoor
