/-
  Parts of the proof: CAheadOk, CRight, CIr, CThing2, CValues2, CBlock2.
-/
import Derived.Test.YtedkjanogjglkaaGreatDoorP06
import Derived.Recover
import Derived.Test.YtedkjanogjglkaaGreatDoorP02
import Derived.Test.YtedkjanogjglkaaGreatDoorP01
import Derived.Deep.RegionHeld3
import Derived.Test.YtedkjanogjglkaaGreatDoorP03
set_option maxRecDepth 100000
set_option maxHeartbeats 8000000
namespace Go.Proofs.YtedkjanogjglkaaGreatDoor
open Go.RowKit
namespace Code
def ValsOk : List Bool -> List Val -> Prop
 | _, [] => True
 | R, v :: l => hasAll R (useT v.thing) = true /\ ValsOk (R.set v.num true) l
def AheadOk (bks : List Blk) (A : Sets) : Prop :=
 ∀ j (h : j < bks.length) (h' : j < A.length), ValsOk A[j] bks[j].values /\ hasAll (addAll A[j] bks[j].values) (useL bks[j].last) = true /\
  ∀ k (hk : k < (tg bks[j].last).length) (ht : (tg bks[j].last)[k] < bks.length), PhisMade bks[(tg bks[j].last)[k]].values ((edges bks).places j k) (addAll A[j] bks[j].values)
def Small (bks : List Blk) : Prop := ∀ b ∈ bks, b.values.length <= 100000 /\ (∀ v ∈ b.values, v.num < 60 /\ (useT v.thing).length <= 100000 /\ ∀ x ∈ useT v.thing, x < 60) /\ (useL b.last).length <= 100000 /\ ∀ x ∈ useL b.last, x < 60
end Code
theorem below_of_grown {w w4 ws : World} {b : Nat} (h : Below w.heap.size w w4) (hg : w4.grownBy ws (some b)) (hb : w.heap.size <= b) : Below w.heap.size w ws :=
 h.trans ⟨hg.os, hg.tape, hg.output, hg.size, fun k hk => hg.block k (Nat.lt_of_lt_of_le hk h.size) (fun e => by simp at e; omega)⟩
theorem newSet (w5 : World) (E : List Bool) (hE : E.length = 60) : setRow ((w5.alloc (.cells #[.bool false, .bool false, .bool false, .bool false, .bool false, .bool false, .bool false, .bool false, .bool false, .bool false, .bool false, .bool false, .bool false, .bool false, .bool false, .bool false, .bool false, .bool false, .bool false, .bool false, .bool false, .bool false, .bool false, .bool false, .bool false, .bool false, .bool false, .bool false, .bool false, .bool false, .bool false, .bool false, .bool false, .bool false, .bool false, .bool false, .bool false, .bool false, .bool false, .bool false, .bool false, .bool false, .bool false, .bool false, .bool false, .bool false, .bool false, .bool false, .bool false, .bool false, .bool false, .bool false, .bool false, .bool false, .bool false, .bool false, .bool false, .bool false, .bool false, .bool false] 281)).setCells w5.heap.size 0 (setL E).toArray.toList) w5.heap.size E := by
 have hnew : setRow (w5.alloc (.cells (setA noNumber) 281)) w5.heap.size noNumber := heap_alloc_new w5 _
 exact hnew.put _ (by rw [hE]; rfl)
theorem newThere (w' : World) : (w'.alloc (.cells #[.bool false, .bool false, .bool false, .bool false, .bool false, .bool false, .bool false, .bool false, .bool false, .bool false, .bool false, .bool false, .bool false, .bool false, .bool false, .bool false, .bool false, .bool false, .bool false, .bool false, .bool false, .bool false, .bool false, .bool false, .bool false, .bool false, .bool false, .bool false, .bool false, .bool false, .bool false, .bool false, .bool false, .bool false, .bool false, .bool false, .bool false, .bool false, .bool false, .bool false, .bool false, .bool false, .bool false, .bool false, .bool false, .bool false, .bool false, .bool false, .bool false, .bool false, .bool false, .bool false, .bool false, .bool false, .bool false, .bool false, .bool false, .bool false, .bool false, .bool false] 281)).there w'.heap.size 0 60 := by
 have hnew : setRow (w'.alloc (.cells (setA noNumber) 281)) w'.heap.size noNumber := heap_alloc_new w' _
 exact hnew.there
theorem madeAhead_ok (args : Nat) (bks : List Code.Blk) (p : Option Addr) (c : Nat) (base : Nat) (w : World) (hf : RepBlks w base (.slice p bks.length c) bks) (hn : bks.length <= 8) (hn0 : 0 < bks.length) (hl : Code.Small bks) (ht : ∀ b ∈ bks, ∀ t ∈ Code.tg b.last, t < bks.length)
  (ha : ∀ A, A.length = bks.length -> All60 A -> Code.Iter bks (Code.startTo bks.length bks.length) A -> Code.AheadOk bks A) :
  Calls Tryz.prog 123 #[.agg #[.int .i64 (args : Nat), .slice p bks.length c]] w fun e w' => e = .returned (.tuple #[]) /\ Below w.heap.size w w' := by
 have HF := hide hf
 have HTG := hide ht
 have HL := hide hl
 clear hf ht hl
 go_enter Tryz.func123, Tryz.ntmps123
 go_wp2_with fail
 generalize hw0 : w.alloc _ = w0
 have hx0 : w0.heap[w.heap.size]? = some (.cells #[.int .i64 (args : Nat), .slice p bks.length c] 78) := by rw [<- hw0]; exact heap_alloc_new w _
 have hb0 : Below w.heap.size w w0 := by rw [<- hw0]; exact below_al (Below.refl _ _) _
 have hz0 : w0.heap.size = w.heap.size + 1 := by rw [<- hw0]; simp
 clear hw0
 refine (edges_any args bks p c base w0 (HF.out.below hb0) hn HTG.out).mono ?_
 rintro e w1 ⟨mb, gc, n, rfl, hmb, hgc, hE, _, hb1⟩
 have hx1 := (hb1.block _ (lt_of_block hx0)).trans hx0
 have hbw1 : Below w.heap.size w w1 := hb0.trans (hb1.mono hb0.size)
 have hx1a := blk_cell hx1 0 _ rfl
 have hx1b := blk_cell hx1 1 _ rfl
 clear hx0 hb0 hb1
 go_wp2_with fail
 refine (madeAhead_any args bks p c base w1 (HF.out.below hbw1) hn hn0 (fun b hb => ⟨(HL.out b hb).1, fun v hv => ((HL.out b hb).2.1 v hv).1⟩) HTG.out).mono ?_
 rintro e w2 ⟨gA, A, rfl, hgA, hA, hA6, hrA, hit, hb2⟩
 have HAO := hide (ha A hA hA6 hit)
 have hx2 := (hb2.block _ (lt_of_block hx1)).trans hx1
 have hE2 := hE.below hb2
 have hbw2 : Below w.heap.size w w2 := hbw1.trans (hb2.mono hbw1.size)
 have hx2b := blk_cell hx2 1 _ rfl
 have hmb1 := hE.lt
 have hz1 := hbw1.size
 have hmbA : mb < gA := by omega
 clear hx1 hx1a hx1b hE hbw1 hb2 hit ha
 go_wp2_with fail
 obtain ⟨p', c', hpe, hblk⟩ := HF.out.open
 simp only [Value.slice.injEq] at hpe
 obtain ⟨rfl, _, rfl⟩ := hpe
 have HBLK := hide hblk
 clear hblk hx2b
 go_loopw [22] (fun i wr => ∃ j : Nat, j <= bks.length /\ i = .int .i64 j /\ setsRow wr gA A /\ EMap wr mb n (Code.edges bks).places /\ wr.heap[w.heap.size]? = some (.cells #[.int .i64 (args : Nat), .slice p bks.length c] 78) /\ Below w.heap.size w wr) (fun i _ => bks.length - (intOf i).toNat)
 case atStart => exact ⟨0, by omega, rfl, hrA, hE2, hx2, hbw2⟩
 case round =>
  obtain ⟨j, hj, rfl, hrs, hEm, hxs, hbs⟩ := hrel
  clear hrA hE2 hx2 hbw2
  have hzs := hbs.size
  by_cases hlt : j < bks.length
  ·obtain ⟨gb, vs, rfl, hg, c0, c1, hvs⟩ := HBLK.out j hlt
   obtain ⟨hlen, hnum, hul, hul6⟩ := HL.out bks[j] (List.getElem_mem hlt)
   have hjA : j < A.length := by omega
   obtain ⟨hvok, hlok, hpok⟩ := HAO.out j hlt hjA
   obtain ⟨pv, cv, rfl, hval⟩ := hvs.open
   have c0' : wr.cell? ⟨gb, j * 2, none⟩ = some (.slice pv bks[j].values.length cv) := by rw [(bcell hbs).1 gb _ hg]; exact c0
   obtain ⟨T, zv, hzv⟩ := lastV_shape bks[j].last
   have c1' : wr.cell? ⟨gb, j * 2 + 1, none⟩ = some (.iface T zv) := by rw [(bcell hbs).1 gb _ hg, <- hzv]; exact c1
   have HTA := hide (targets_any bks[j].last)
   have HUL := hide (usesOfLast_any bks[j].last)
   rw [hzv] at HTA HUL
   have htb : ∀ t ∈ Code.tg bks[j].last, t < bks.length := HTG.out bks[j] (List.getElem_mem hlt)
   have htl := Code.tg_length bks[j].last
   have hR60 : A[j].length = 60 := hA6 _ (List.getElem_mem hjA)
   have HRG : Hid (∀ w', setsRow w' gA A -> w'.rangeAt gA (j * 60) (setL A[j])) := hide fun w' h => h.range hA6 j hjA
   have HV := hide hval
   have HVOK := hide hvok
   have HLOK := hide hlok
   have HPOK := hide hpok
   have HNUM := hide hnum
   have HUL6 := hide hul6
   generalize Code.useL bks[j].last = ul at *
   generalize Code.tg bks[j].last = tl at *
   generalize bks[j].values = vals at *
   generalize A[j] = Rj at *
   clear c0 c1 hvs hzv hval hvok hlok hpok hnum hul6
   have hjl : (j : Int) < (bks.length : Int) := by omega
   have hiR := setSize Rj hR60
   have hiR' : (Tryz.prog.info? 281).map (·.size) = some (setL Rj).toArray.size := setSize' Rj hR60
   have hoR : (setL Rj).toArray.all (·.oneCell') = true := setOne Rj
   have hlR : (setL Rj).toArray.size = 60 := by rw [List.size_toArray, setL_length]; exact hR60
   have hcc : (((wr.alloc (.cells #[.slice pv vals.length cv, .iface T zv] 165)).alloc (.cells #[.bool false, .bool false, .bool false, .bool false, .bool false, .bool false, .bool false, .bool false, .bool false, .bool false, .bool false, .bool false, .bool false, .bool false, .bool false, .bool false, .bool false, .bool false, .bool false, .bool false, .bool false, .bool false, .bool false, .bool false, .bool false, .bool false, .bool false, .bool false, .bool false, .bool false, .bool false, .bool false, .bool false, .bool false, .bool false, .bool false, .bool false, .bool false, .bool false, .bool false, .bool false, .bool false, .bool false, .bool false, .bool false, .bool false, .bool false, .bool false, .bool false, .bool false, .bool false, .bool false, .bool false, .bool false, .bool false, .bool false, .bool false, .bool false, .bool false, .bool false] 281)).setCells (wr.heap.size + 1) 0 (setL Rj)).cell? ⟨wr.heap.size, 0, none⟩ = some (.slice pv vals.length cv) := blk_cell (stay_cells (stay_alloc (heap_alloc_new wr _)) (by omega)) 0 _ rfl
   go_wp2_with (first | refine wpList_load_mid rfl 281 _ rfl gA (j * 60) rfl (setL Rj) _ (HRG.out _ (stay_alloc hrs)) Tryz.underlying281 rfl hiR ?_ | (refine wpList_store_mid rfl 281 _ _ rfl (wr.heap.size + 1) 0 (setL Rj).toArray rfl rfl ?_ hiR' hoR ?_; (rw [hlR]; (have h := newThere (wr.alloc (.cells #[.slice pv vals.length cv, .iface T zv] 165))); (rw [alloc_size] at h); exact h); (rw [show (setL Rj).toArray.toList = setL Rj from rfl])))
   generalize hw4 : World.setCells _ _ _ _ = w4
   have hM4 : setRow w4 (wr.heap.size + 1) Rj := by
    have h := newSet (wr.alloc (.cells #[.slice pv vals.length cv, .iface T zv] 165)) Rj hR60
    rw [alloc_size] at h
    rw [<- hw4]; exact h
   have hb4 : Below wr.heap.size wr w4 := by rw [<- hw4]; exact below_cells (below_al (below_al (Below.refl _ _) _) _) (Nat.le_succ _) _ _
   have hcp4 : w4.heap[wr.heap.size]? = some (.cells #[.slice pv vals.length cv, .iface T zv] 165) := by
    rw [<- hw4]; exact stay_cells (stay_alloc (heap_alloc_new wr _)) (by omega)
   have hbw4 : Below w.heap.size w w4 := hbs.trans (hb4.mono hzs)
   have hrs4 : setsRow w4 gA A := (hb4.block _ (lt_of_block hrs)).trans hrs
   have hEm4 := hEm.below hb4
   have hxs4 := (hb4.block _ (lt_of_block hxs)).trans hxs
   have hltA := lt_of_block hrs
   have hltM := hEm.lt
   have hltX := lt_of_block hxs
   clear hw4 hrs hEm hxs hbs c0' c1' hb4
   clear hcc
   generalize hb6 : wr.heap.size = b6 at *
   rename World => wo
   go_loopw [34] (fun i ws => ∃ (k : Nat) (S : List Bool), k <= vals.length /\ i = .int .i64 k /\ S.length = 60 /\ setRow ws (b6 + 1) S /\ wo.grownBy ws (some (b6 + 1)) /\ Hid (Code.ValsOk S (vals.drop k) /\ Code.addAll S (vals.drop k) = Code.addAll Rj vals)) (fun i _ => vals.length - (intOf i).toNat)
   case atStart => exact ⟨0, Rj, by omega, rfl, hR60, hM4, grown_refl _ _, hide ⟨HVOK.out, rfl⟩⟩
   case round =>
    obtain ⟨k, S, hk, rfl, hS, hMk, hgk, hsp⟩ := hrel
    clear hM4
    have hbk := below_of_grown hbw4 hgk (by omega)
    have hMl := lt_of_block hMk
    by_cases hkt : k < vals.length
    ·obtain ⟨g2, th, rfl, hg2, d0, d1, hth⟩ := HV.out k hkt
     obtain ⟨hx60, hul2, hu60⟩ := HNUM.out vals[k] (List.getElem_mem hkt)
     have hvo := hsp.out.1
     have hva := hsp.out.2
     rw [List.drop_eq_getElem_cons hkt] at hvo hva
     have HH := hide hvo.1
     have HN : Hid (Code.ValsOk (S.set vals[k].num true) (vals.drop (k + 1)) /\ Code.addAll (S.set vals[k].num true) (vals.drop (k + 1)) = Code.addAll Rj vals) := hide ⟨hvo.2, hva⟩
     have d0' : wr.cell? ⟨g2, k * 2, none⟩ = some (.int .i64 (vals[k].num : Nat)) := by rw [(bcell hbk).1 g2 _ hg2]; exact d0
     have d1' : wr.cell? ⟨g2, k * 2 + 1, none⟩ = some th := by rw [(bcell hbk).1 g2 _ hg2]; exact d1
     have HTH := hide hth
     generalize vals[k].thing = y at *
     generalize vals[k].num = x at *
     obtain ⟨T', tv, rfl⟩ := hth.shape
     clear d0 d1 hth hsp hvo hva
     have hx' : (x : Int) < 60 := by omega
     obtain ⟨bx, hcx⟩ : ∃ bx, wr.cell? ⟨b6 + 1, x, none⟩ = some bx := ⟨_, hMk.cell x (by omega)⟩
     go_wp2_with fail
     generalize hw9 : wr.alloc _ = w9
     have hb9 : Below wr.heap.size wr w9 := by rw [<- hw9]; exact below_al (Below.refl _ _) _
     have hcp9 : w9.heap[wr.heap.size]? = some (.cells #[.int .i64 (x : Nat), .iface T' tv] 169) := by rw [<- hw9]; exact heap_alloc_new wr _
     have hM9 : setRow w9 (b6 + 1) S := (hb9.block _ hMl).trans hMk
     have hbw9 : Below w.heap.size w w9 := hbk.trans (hb9.mono hbk.size)
     generalize hb8 : wr.heap.size = b8 at *
     clear hw9 d0' d1' hcx
     have e1 : ∀ w', Below w9.heap.size w9 w' -> w'.cell? ⟨b8, 1, none⟩ = some (.iface T' tv) := fun w' h => blk_cell ((h.block _ (lt_of_block hcp9)).trans hcp9) 1 _ rfl
     have HRG9 : Hid (∀ w', Below w9.heap.size w9 w' -> w'.rangeAt (b6 + 1) 0 (setL S)) := hide fun w' h => setRow.range (w := w') ((h.block _ (lt_of_block hM9)).trans hM9)
     have HUP : Hid (∀ w', Below w9.heap.size w9 w' -> Calls Tryz.prog 166 #[.iface T' tv] w' fun e w'' => ∃ r, e = .returned r /\ w''.ownsRow base 3 1 r (Code.useT y).length (nats (Code.useT y)) /\ Below w9.heap.size w9 w'') := hide fun w' h => by
      have hbw' : Below w.heap.size w w' := hbw9.trans (h.mono hbw9.size)
      refine (usesInPlace_any y (.iface T' tv) base w' (HTH.out.mono (fun _ _ _ h => own_below h hbw'))).mono ?_
      rintro e w'' ⟨r, h1, h2, h3⟩
      exact ⟨r, h1, h2, h.trans (h3.mono h.size)⟩
     have HHA : Hid (∀ w' r, Below w9.heap.size w9 w' -> w'.ownsRow base 3 1 r (Code.useT y).length (nats (Code.useT y)) -> Calls Tryz.prog 165 #[.agg (setL S).toArray, r] w' fun e w'' => e = .returned (.bool true) /\ Below w9.heap.size w9 w'') := hide fun w' r h hr => by
      refine (hasAll_any S hS (Code.useT y) hu60 hul2 r base w' hr).mono ?_
      rintro e w'' ⟨h1, h2⟩
      rw [HH.out] at h1
      exact ⟨h1, h.trans (h2.mono h.size)⟩
     have hu := Tryz.underlying281
     have hi60 := setSize S hS
     have hl60 : (setL S).length = 60 := by rw [setL_length]; exact hS
     go_region_held3 (fun w' => Below w9.heap.size w9 w' /\ w'.rangeAt (b6 + 1) 0 (setL S)) (first | assumption | (go_split_ands; (try dsimp only); refine ⟨?_, HRG9.out _ ?_⟩ <;> (repeat' (first | assumption | exact Below.refl _ _ | apply Below.drew)))) (first | (go_at_call 166; refine (HUP.out _ ?_).mono ?_; (repeat' (first | assumption | exact Below.refl _ _ | apply Below.drew)); rintro e w10 ⟨r, rfl, hrow, hb10⟩) | (go_at_call 165; refine (HHA.out _ _ ?_ ?_).mono ?_; (exact hb10); (exact hrow); rintro e w11 ⟨rfl, hb11⟩))
     have hcp11 := (hb11.block _ (lt_of_block hcp9)).trans hcp9
     have hM11 : setRow w11 (b6 + 1) S := (hb11.block _ (lt_of_block hM9)).trans hM9
     have f0 := blk_cell hcp11 0 _ rfl
     obtain ⟨by11, hcx11⟩ : ∃ b, w11.cell? ⟨b6 + 1, x, none⟩ = some b := ⟨_, hM11.cell x (by omega)⟩
     have hfz11 := blk_froz hM11 x
     have hg11 : wo.grownBy w11 (some (b6 + 1)) := grown_trans hgk (grown_below (hb8 ▸ (hb9.trans (hb11.mono (hb8 ▸ hb9.size)))))
     clear hcp9 hM9 e1 HRG9 HUP HHA hi60 hl60 hu
     go_wp2
     exact ⟨⟨k + 1, S.set x true, by omega, by go_num, by simp [hS], hM11.set x true, grown_trans hg11 (grown_set _ _ _ _), HN⟩, by simp [intOf]; omega⟩
    ·have HSA : Hid (S = Code.addAll Rj vals) := by
      have h := hsp.out.2
      rw [List.drop_of_length_le (by omega)] at h
      exact h
     clear hsp
     have hcpk := kept_block hcp4 hgk (by omega)
     have hb6l := lt_of_block hcpk
     have e1 : ∀ w', Below wr.heap.size wr w' -> w'.cell? ⟨b6, 1, none⟩ = some (.iface T zv) := fun w' h => blk_cell ((h.block _ hb6l).trans hcpk) 1 _ rfl
     have HRG9 : Hid (∀ w', Below wr.heap.size wr w' -> w'.rangeAt (b6 + 1) 0 (setL S)) := hide fun w' h => setRow.range (w := w') ((h.block _ hMl).trans hMk)
     have HUP : Hid (∀ w', Below wr.heap.size wr w' -> Calls Tryz.prog 167 #[.iface T zv] w' fun e w'' => ∃ r, e = .returned r /\ w''.ownsRow 0 3 1 r ul.length (nats ul) /\ Below wr.heap.size wr w'') := hide fun w' h => by
      refine (HUL.out w').mono ?_
      rintro e w'' ⟨r, h1, h2, h3⟩
      exact ⟨r, h1, own_base h2 (Nat.zero_le _), h.trans (h3.mono h.size)⟩
     have HHA : Hid (∀ w' r, Below wr.heap.size wr w' -> w'.ownsRow 0 3 1 r ul.length (nats ul) -> Calls Tryz.prog 165 #[.agg (setL S).toArray, r] w' fun e w'' => e = .returned (.bool true) /\ Below wr.heap.size wr w'') := hide fun w' r h hr => by
      refine (hasAll_any S hS ul HUL6.out hul r 0 w' hr).mono ?_
      rintro e w'' ⟨h1, h2⟩
      rw [HSA.out, HLOK.out] at h1
      exact ⟨h1, h.trans (h2.mono h.size)⟩
     have hu := Tryz.underlying281
     have hi60 := setSize S hS
     have hl60 : (setL S).length = 60 := by rw [setL_length]; exact hS
     go_wp2_with fail
     go_region_held3 (fun w' => Below wr.heap.size wr w' /\ w'.rangeAt (b6 + 1) 0 (setL S)) (first | assumption | (go_split_ands; (try dsimp only); refine ⟨?_, HRG9.out _ ?_⟩ <;> (repeat' (first | assumption | exact Below.refl _ _ | apply Below.drew)))) (first | (go_at_call 167; refine (HUP.out _ ?_).mono ?_; (repeat' (first | assumption | exact Below.refl _ _ | apply Below.drew)); rintro e w10 ⟨r, rfl, hrow, hb10⟩) | (go_at_call 165; refine (HHA.out _ _ ?_ ?_).mono ?_; (exact hb10); (exact hrow); rintro e w11 ⟨rfl, hb11⟩))
     have f1 := e1 w11 hb11
     clear e1 HRG9 HUP HHA hi60 hl60 hu
     go_wp2_with fail
     refine (HTA.out w11).mono ?_
     rintro e w12 ⟨v12, rfl, hown12, hb12⟩
     have hbq : Below wr.heap.size wr w12 := hb11.trans (hb12.mono hb11.size)
     have hg12 : wo.grownBy w12 (some (b6 + 1)) := grown_trans hgk (grown_below hbq)
     have hM12 : setRow w12 (b6 + 1) S := (hbq.block _ hMl).trans hMk
     have hz11 := hb11.size
     have hzk := hgk.size
     clear f1 hb11 hb12 hbq hcpk hMk hgk hbk
     obtain ⟨p12, c12, rfl, _⟩ := nats_open hown12
     go_wp2_with fail
     rename World => wz
     have hbwz := below_of_grown hbw4 hg12 (by omega)
     have hxsz := kept_block hxs4 hg12 (by omega)
     have hEmz := hEm4.kept hg12 (by simp; omega)
     have hrsz := kept_block hrs4 hg12 (by omega)
     have hmbz := hEmz.lt
     go_loopw [66] (fun i ws => ∃ k : Nat, k <= tl.length /\ i = .int .i64 k /\ Below wz.heap.size wz ws) (fun i _ => tl.length - (intOf i).toNat)
     case atStart => exact ⟨0, by omega, rfl, Below.refl _ _⟩
     case round =>
      obtain ⟨k, hk, rfl, hbz⟩ := hrel
      have hbwr : Below w.heap.size w wr := hbwz.trans (hbz.mono hbwz.size)
      by_cases hkt : k < tl.length
      ·obtain ⟨p13, c13, hpe, hval13⟩ := nats_open (own_below hown12 hbz)
       simp only [Value.slice.injEq] at hpe
       obtain ⟨rfl, _, rfl⟩ := hpe
       obtain ⟨g13, rfl, ct⟩ := hval13 k hkt
       have htk := htb tl[k] (List.getElem_mem hkt)
       have HPM := hide (HPOK.out k hkt htk)
       rw [<- HSA.out] at HPM
       have hlenT := (HL.out bks[tl[k]] (List.getElem_mem htk)).1
       have hx0 : ∀ w', Below wr.heap.size wr w' -> w'.cell? ⟨w.heap.size, 0, none⟩ = some (.int .i64 (args : Nat)) := fun w' h => blk_cell ((h.block _ (Nat.lt_of_lt_of_le (lt_of_block hxsz) hbz.size)).trans ((hbz.block _ (lt_of_block hxsz)).trans hxsz)) 0 _ rfl
       have hx1 : ∀ w', Below wr.heap.size wr w' -> w'.cell? ⟨w.heap.size, 1, none⟩ = some (.slice (some ⟨gb, 0, none⟩) bks.length c) := fun w' h => blk_cell ((h.block _ (Nat.lt_of_lt_of_le (lt_of_block hxsz) hbz.size)).trans ((hbz.block _ (lt_of_block hxsz)).trans hxsz)) 1 _ rfl
       have HRG9 : Hid (∀ w', Below wr.heap.size wr w' -> w'.rangeAt (b6 + 1) 0 (setL S)) := hide fun w' h => setRow.range (w := w') ((h.block _ (Nat.lt_of_lt_of_le (lt_of_block hM12) hbz.size)).trans ((hbz.block _ (lt_of_block hM12)).trans hM12))
       have hlook : ∀ w', Below wr.heap.size wr w' -> (Instr.lookup 251 (.map (some mb)) (.agg #[.int .i64 (j : Nat), .int .i64 (k : Nat)]) false).run Tryz.prog w' = .ok (.int .i64 ((Code.edges bks).places j k : Nat)) w' := fun w' h => ((hEmz.below hbz).below h).look j k (by omega) (by omega)
       have HCP : Hid (∀ w', Below wr.heap.size wr w' -> Calls Tryz.prog 168 #[.agg #[.int .i64 (args : Nat), .slice (some ⟨gb, 0, none⟩) bks.length c], .int .i64 (tl[k] : Nat), .int .i64 ((Code.edges bks).places j k : Nat), .agg (setL S).toArray] w' fun e w'' => e = .returned (.tuple #[]) /\ Below wr.heap.size wr w'') := hide fun w' h => by
        refine (phisMade_ok args bks (some ⟨gb, 0, none⟩) c base w' (HF.out.below (hbwr.trans (h.mono hbwr.size))) tl[k] htk hlenT _ S hS HPM.out).mono ?_
        rintro e w'' ⟨h1, h2⟩
        exact ⟨h1, h.trans (h2.mono h.size)⟩
       have hu := Tryz.underlying281
       have hi60 := setSize S hS
       have hl60 : (setL S).length = 60 := by rw [setL_length]; exact hS
       generalize (Code.edges bks).places j k = pl at *
       generalize tl[k] = tk at *
       clear hval13
       go_wp2_with fail
       go_region_held3 (fun w' => Below wr.heap.size wr w' /\ w'.rangeAt (b6 + 1) 0 (setL S)) (first | assumption | (go_split_ands; (try dsimp only); refine ⟨?_, HRG9.out _ ?_⟩ <;> (repeat' (first | assumption | exact Below.refl _ _ | apply Below.drew)))) (first | (go_at_call 168; refine (HCP.out _ ?_).mono ?_; (repeat' (first | assumption | exact Below.refl _ _ | apply Below.drew)); rintro e w14 ⟨rfl, hb14⟩))
       go_wp2
       exact ⟨⟨k + 1, by omega, by go_num, hbz.trans (hb14.mono hbz.size)⟩, by simp [intOf]; omega⟩
      ·go_wp2
       refine ⟨⟨j + 1, by omega, by go_num, (hbz.block _ (lt_of_block hrsz)).trans hrsz, hEmz.below hbz, (hbz.block _ (lt_of_block hxsz)).trans hxsz, hbwr⟩, by simp [intOf]; omega⟩
  ·go_wp2
   go_end0
   exact ⟨rfl, hbs⟩
namespace Code
structure Right (bks : List Blk) : Prop where
 most : bks.length <= 8
 some : 0 < bks.length
 small : Small bks
 once : Once noNumber bks
 goes : ∀ b ∈ bks, ∀ t ∈ tg b.last, 1 <= t /\ t < bks.length
 reached : reachF 9 (tgs bks) (List.replicate bks.length false) 0 = List.replicate bks.length true
 phis : PhisOk bks
 ahead : ∀ A, A.length = bks.length -> All60 A -> Iter bks (startTo bks.length bks.length) A -> AheadOk bks A
end Code
theorem requireRight_ok (args : Nat) (bks : List Code.Blk) (p : Option Addr) (c : Nat) (base : Nat) (w : World) (hf : RepBlks w base (.slice p bks.length c) bks) (hr : Code.Right bks) :
  Calls Tryz.prog 75 #[.agg #[.int .i64 (args : Nat), .slice p bks.length c]] w fun e w' => e = .returned (.tuple #[]) /\ Below w.heap.size w w' := by
 have HF := hide hf
 have HR := hide hr
 clear hf hr
 go_enter Tryz.func75, Tryz.ntmps75
 go_wp2_with fail
 generalize hw0 : w.alloc _ = w0
 have hx0 : w0.heap[w.heap.size]? = some (.cells #[.int .i64 (args : Nat), .slice p bks.length c] 78) := by rw [<- hw0]; exact heap_alloc_new w _
 have hb0 : Below w.heap.size w w0 := by rw [<- hw0]; exact below_al (Below.refl _ _) _
 clear hw0
 refine (madeOnce_ok args bks p c base w0 (HF.out.below hb0) HR.out.most (fun b hb => ⟨(HR.out.small b hb).1, fun v hv => ((HR.out.small b hb).2.1 v hv).1⟩) HR.out.once).mono ?_
 rintro e w1 ⟨rfl, hb1⟩
 have hx1 := (hb1.block _ (lt_of_block hx0)).trans hx0
 have hbw1 : Below w.heap.size w w1 := hb0.trans (hb1.mono hb0.size)
 have c0 := blk_cell hx1 0 _ rfl
 have c1 := blk_cell hx1 1 _ rfl
 clear hx0 hb0 hb1
 go_wp2_with fail
 refine (targets_ok args bks p c base w1 (HF.out.below hbw1) HR.out.most HR.out.goes).mono ?_
 rintro e w2 ⟨rfl, hb2⟩
 have hx2 := (hb2.block _ (lt_of_block hx1)).trans hx1
 have hbw2 : Below w.heap.size w w2 := hbw1.trans (hb2.mono hbw1.size)
 clear c0 c1 hx1 hbw1 hb2
 have c0 := blk_cell hx2 0 _ rfl
 have c1 := blk_cell hx2 1 _ rfl
 go_wp2_with fail
 refine (reached_ok args bks p c base w2 (HF.out.below hbw2) HR.out.most HR.out.some (fun b hb t ht => (HR.out.goes b hb t ht).2) HR.out.reached).mono ?_
 rintro e w3 ⟨rfl, hb3⟩
 have hx3 := (hb3.block _ (lt_of_block hx2)).trans hx2
 have hbw3 : Below w.heap.size w w3 := hbw2.trans (hb3.mono hbw2.size)
 clear c0 c1 hx2 hbw2 hb3
 have c0 := blk_cell hx3 0 _ rfl
 have c1 := blk_cell hx3 1 _ rfl
 go_wp2_with fail
 refine (phis_ok args bks p c base w3 (HF.out.below hbw3) HR.out.most (fun b hb => (HR.out.small b hb).1) (fun b hb t ht => (HR.out.goes b hb t ht).2) HR.out.phis).mono ?_
 rintro e w4 ⟨rfl, hb4⟩
 have hx4 := (hb4.block _ (lt_of_block hx3)).trans hx3
 have hbw4 : Below w.heap.size w w4 := hbw3.trans (hb4.mono hbw3.size)
 clear c0 c1 hx3 hbw3 hb4
 have c0 := blk_cell hx4 0 _ rfl
 have c1 := blk_cell hx4 1 _ rfl
 go_wp2_with fail
 refine (madeAhead_ok args bks p c base w4 (HF.out.below hbw4) HR.out.most HR.out.some HR.out.small (fun b hb t ht => (HR.out.goes b hb t ht).2) HR.out.ahead).mono ?_
 rintro e w5 ⟨rfl, hb5⟩
 have hbw5 : Below w.heap.size w w5 := hbw4.trans (hb5.mono hbw4.size)
 go_wp2
 go_end0
 exact ⟨rfl, hbw5⟩
theorem Tab.pos {w : World} (h : Tab w) : 0 < w.heap.size := by
 have h1 := h 0 _ (opCells_at 0 (by omega)).1
 cases hh : w.heap[0]? with
 | none => simp [World.cell?, hh] at h1
 | some o => exact lt_of_block hh
theorem Tab.below {w w' : World} (h : Tab w) (hb : Below w.heap.size w w') : Tab w' := by
 intro j v hv
 rw [(bcell hb).1 0 _ h.pos]
 exact h j v hv
theorem read_ok (s : List UInt8) (f : Code.Fn) (w : World) (hs : s.length <= 1500) (ht : Tab w) (hf : Code.FnIs s f) (hr : Code.Right f.blocks) :
  Calls Tryz.prog 37 #[.string (bs s)] w fun e w' =>
   ∃ p c, e = .returned (.agg #[.int .i64 (f.args : Nat), .slice p f.blocks.length c]) /\ RepBlks w' w.heap.size (.slice p f.blocks.length c) f.blocks /\ Below w.heap.size w w' := by
 have e1 := bs_size s
 have hs' : ¬ (1500 : Int) < (s.length : Int) := by omega
 have HF := hide hf
 have HR := hide hr
 have HT := hide ht
 have hp := ht.pos
 clear hf hr ht
 go_enter Tryz.func37, Tryz.ntmps37
 go_wp2_with fail
 generalize hw0 : (w.alloc _).alloc _ = w0
 have hx0 : w0.heap[w.heap.size]? = some (.cells #[.int .i64 0, .slice none 0 0] 78) := by rw [<- hw0]; exact stay_alloc (heap_alloc_new w _)
 have hr0 : RdF w0 (w.heap.size + 1) s 1 0 := by
  have h := heap_alloc_new (w.alloc (.cells #[.int .i64 0, .slice none 0 0] 78)) (.cells #[.string (bs s), .int .i64 1, .int .i64 1, .int .i64 0] 142)
  rw [alloc_size] at h
  rw [<- hw0]; exact h
 have hb0 : Below w.heap.size w w0 := by rw [<- hw0]; exact below_al (below_al (Below.refl _ _) _) _
 clear hw0
 refine (function_ok (w.heap.size + 1) s f 1 0 w0 hr0 (by omega) ⟨by omega, by omega⟩ (HT.out.below hb0) (by omega) HF.out).mono ?_
 rintro e w1 ⟨p, c, rfl, hrep1, hg1⟩
 have hbw1 : Below w.heap.size w w1 := below_of_grown hb0 hg1 (by omega)
 have hx1 := kept_block hx0 hg1 (by omega)
 have HREP : Hid (RepBlks w1 w.heap.size (.slice p f.blocks.length c) f.blocks) := hide (hrep1.mono (fun _ _ _ h => own_base h hb0.size) (fun _ _ _ h => own_base h hb0.size) (fun _ _ _ h => own_base h hb0.size))
 clear hrep1 hg1 hb0 hr0 hx0
 go_wp2_with fail
 generalize hw2 : w1.alloc _ = w2
 have hf2 : w2.heap[w1.heap.size]? = some (.cells #[.int .i64 (f.args : Nat), .slice p f.blocks.length c] 78) := by rw [<- hw2]; exact heap_alloc_new w1 _
 have hb2 : Below w1.heap.size w1 w2 := by rw [<- hw2]; exact below_al (Below.refl _ _) _
 have hx2 := (hb2.block _ (lt_of_block hx1)).trans hx1
 have hxl := lt_of_block hx1
 clear hw2 hx1
 refine (requireRight_ok f.args f.blocks p c w.heap.size w2 (HREP.out.below hb2) HR.out).mono ?_
 rintro e w3 ⟨rfl, hb3⟩
 have hf3 := (hb3.block _ (lt_of_block hf2)).trans hf2
 have hx3 := (hb3.block _ (lt_of_block hx2)).trans hx2
 have hb13 : Below w1.heap.size w1 w3 := hb2.trans (hb3.mono hb2.size)
 have hbw3 : Below w.heap.size w w3 := hbw1.trans (hb13.mono hbw1.size)
 have HREP3 := hide (HREP.out.below hb13)
 generalize hbf : w1.heap.size = b4 at *
 have c0 := blk_cell hf3 0 _ rfl
 have c1 := blk_cell hf3 1 _ rfl
 have d0 := blk_cell hx3 0 _ rfl
 have d1 := blk_cell hx3 1 _ rfl
 have f0 := blk_froz hx3 0
 have f1 := blk_froz hx3 1
 clear hf2 hx2 hb2 hb3 hb13 hbw1 HREP
 go_wp2
 refine bodyPost_ret (v := .agg #[.int .i64 (f.args : Nat), .slice p f.blocks.length c]) (by simp [results, Tryz.results37, go_sem, d0, d1]) rfl ?_
 refine ⟨p, c, rfl, ?_, below_set (below_set hbw3 (Nat.le_refl _) _ _) (Nat.le_refl _) _ _⟩
 have hh := HREP3.out.mono (fun _ _ _ h => own_set (u := .int .i64 (f.args : Nat)) (o := 0) h hx3 (by decide)) (fun _ _ _ h => own_set (o := 0) (u := .int .i64 (f.args : Nat)) h hx3 (by decide)) (fun _ _ _ h => own_set (o := 0) (u := .int .i64 (f.args : Nat)) h hx3 (by decide))
 exact hh.mono (fun _ _ _ h => own_set (u := .slice p f.blocks.length c) (o := 1) h (set_block hx3) (by decide)) (fun _ _ _ h => own_set (o := 1) (u := .slice p f.blocks.length c) h (set_block hx3) (by decide)) (fun _ _ _ h => own_set (o := 1) (u := .slice p f.blocks.length c) h (set_block hx3) (by decide))
theorem RepBlks.set {w : World} {base b o : Nat} {v u : Value} {l : List Code.Blk} (h : RepBlks w base v l) {C : Array Value} {T : TypeId} {z : Nat × Nat} (hb : w.heap[b]? = some (.cells C T z)) (h1 : T ≠ 165) (h2 : T ≠ 169) (h3 : T ≠ 3) :
  RepBlks (w.setCell ⟨b, o, none⟩ u) base v l :=
 h.mono (fun _ _ _ h => own_set h hb h1) (fun _ _ _ h => own_set h hb h2) (fun _ _ _ h => own_set h hb h3)
theorem nilNe (w : World) : (binOp .neq 20 .nilIface .nilIface).run Tryz.prog w = .ok (.bool false) w := by kernel_rfl
theorem catch_idle (p : Addr) (w : World) :
  CallsD Tryz.prog 84 #[.pointer (some p)] .returning w fun e u' w' => e = .returned (.tuple #[]) /\ u' = .returning /\ w' = w := by
 refine callsD_of_wpS Tryz.func84 rfl fun c₀ cs hu => ?_
 apply wpS_seq
 apply wpS_region
 simp [wpOpsS, go_sem, recoverD, hu, Tryz.ntmps84, Exit.thenS]
 apply wpS_seq
 apply wpS_region
 simp [wpOpsS, go_sem, nilNe, Exit.thenS]
 refine wpS_cond (t := false) (by simp [Act.eval, Array.replicate]) ?_
 simp only [Bool.false_eq_true, if_false]
 refine wpS_of_wp (wp_skip ?_)
 cases c₀
 simp_all [bodyPostS, results, Tryz.results84]
theorem irRead_ok (s : List UInt8) (f : Code.Fn) (w : World) (hs : s.length <= 1500) (ht : Tab w) (hf : Code.FnIs s f) (hr : Code.Right f.blocks) :
  Calls Tryz.prog 40 #[.string (bs s)] w fun e w' =>
   ∃ p c, e = .returned (.tuple #[.agg #[.int .i64 (f.args : Nat), .slice p f.blocks.length c], .int .i64 0]) /\ RepBlks w' w.heap.size (.slice p f.blocks.length c) f.blocks /\ Below w.heap.size w w' := by
 have hmf : ∀ (fn : Fn) (first cap : Array Value) (w : World), (Instr.makeFunc fn first cap).run Tryz.prog w = .ok (.func fn first cap) w := fun _ _ _ _ => rfl
 have HF := hide hf
 have HR := hide hr
 have HT := hide ht
 have hp := ht.pos
 clear hf hr ht
 go_enter_defers Tryz.func40, Tryz.ntmps40
 go_wp2_with fail
 generalize hw0 : (w.alloc _).alloc _ = w0
 have hx0 : w0.heap[w.heap.size]? = some (.cells #[.int .i64 0, .slice none 0 0] 78) := by rw [<- hw0]; exact stay_alloc (heap_alloc_new w _)
 have hy0 : w0.heap[w.heap.size + 1]? = some (.cells #[.int .i64 0] 23) := by
  have h := heap_alloc_new (w.alloc (.cells #[.int .i64 0, .slice none 0 0] 78)) (.cells #[.int .i64 0] 23)
  rw [alloc_size] at h
  rw [<- hw0]; exact h
 have hb0 : Below w.heap.size w w0 := by rw [<- hw0]; exact below_al (below_al (Below.refl _ _) _) _
 clear hw0
 refine (read_ok s f w0 hs (HT.out.below hb0) HF.out HR.out).mono ?_
 rintro e w1 ⟨p, c, rfl, hrep, hb1⟩
 have hx1 := (hb1.block _ (lt_of_block hx0)).trans hx0
 have hy1 := (hb1.block _ (lt_of_block hy0)).trans hy0
 have hbw1 : Below w.heap.size w w1 := hb0.trans (hb1.mono hb0.size)
 have HREP : Hid (RepBlks w1 w.heap.size (.slice p f.blocks.length c) f.blocks) := hide (hrep.mono (fun _ _ _ h => own_base h hb0.size) (fun _ _ _ h => own_base h hb0.size) (fun _ _ _ h => own_base h hb0.size))
 have d0 := blk_cell hx1 0 _ rfl
 have d1 := blk_cell hx1 1 _ rfl
 have f0 := blk_froz hx1 0
 have f1 := blk_froz hx1 1
 have e0 := blk_cell hy1 0 _ rfl
 have ef := blk_froz hy1 0
 clear hx0 hy0 hb0 hb1 hrep
 go_wp2
 refine leaves_cons (f := 84) (args := #[.pointer (some ⟨w.heap.size + 1, 0, none⟩)]) (by simp) (by simp [go_sem]) ?_
 refine (catch_idle ⟨w.heap.size + 1, 0, none⟩ _).mono ?_
 rintro e u' w'' ⟨rfl, rfl, rfl⟩
 refine ⟨_, by simp [results, Tryz.results40, go_sem, d0, d1, e0]; rfl, ?_⟩
 refine ⟨p, c, rfl, ?_, below_set (below_set (below_set hbw1 (Nat.le_refl _) _ _) (Nat.le_refl _) _ _) (Nat.le_succ _) _ _⟩
 have hne : w.heap.size + 1 ≠ w.heap.size := by omega
 exact ((HREP.out.set hx1 (by decide) (by decide) (by decide)).set (set_block hx1) (by decide) (by decide) (by decide)).set (stay_set (stay_set hy1 hne) hne) (by decide) (by decide) (by decide)
theorem thing_argNo (rb : Nat) (s r2 : List UInt8) (l : Int) (a : Nat) (w : World) (hr : RdF w rb s l a) (hs : s.length <= 3000)
  (h2 : Code.word s = Code.sArg) (hc2 : Code.cut [32] (Code.behind s) = some r2) (hb : Code.below a r2 = none) :
  Calls Tryz.prog 199 #[.pointer (some ⟨rb, 0, none⟩)] w fun e w' => Fails w rb 1 e w' := by
 have hlb0 : (Code.behind s).length <= s.length := Code.rest_length _ _ _
 have hlb : (Code.behind s).length <= 3000 := by omega
 have h1 : Code.word s ≠ Code.sPhi := by rw [h2]; decide
 have q1 := word_no h1
 have q2 := word_yes h2
 unfold Code.sPhi at q1
 unfold Code.sArg at q2
 clear h1 h2
 go_enter Tryz.func199, Tryz.ntmps199
 go_wp2_with fail
 refine (letters_any rb _ s l 1 _ w hr hs).mono ?_
 rintro e w1 ⟨rfl, hr1, hg1⟩
 generalize Code.word s = ww at *
 generalize Code.behind s = bb at *
 go_wp2_with fail
 refine (take_any rb _ bb [32] l 1 _ w1 hr1 hlb (by simp)).mono ?_
 rintro e w2 (⟨r2', hc, rfl, hr2, hg2⟩ | ⟨hc, _⟩)
 case inr => rw [hc2] at hc; cases hc
 obtain rfl : r2 = r2' := Option.some.inj (hc2.symm.trans hc)
 have l2 := Code.cut_length hc
 simp only [List.length_cons, List.length_nil] at l2
 clear hc hc2
 have c3 := hr2.c3
 have HB : Hid (∀ (w' : World), RdF w' rb r2 l a -> Calls Tryz.prog 116 #[.pointer (some ⟨rb, 0, none⟩), .int .i64 (a : Nat)] w' fun e w'' => Fails w' rb 1 e w'') := hide fun w' h => by
  refine (below_any rb _ r2 l 1 a _ w' h (by omega)).mono ?_
  rw [hb]
  rintro e w'' (⟨_, _, h', _⟩ | ⟨_, h'⟩)
  ·cases h'
  ·exact h'
 clear hb
 go_wp2_with fail
 refine wp_region_held_drew (S := fun w' => w'.cell? ⟨rb, 3, none⟩ = some (.int .i64 (a : Nat))) (by kernel_rfl) c3 (fun hHeld => ?_)
 refine wpAnyH_take (i := 0) (v := .pointer (some ⟨rb, 0, none⟩)) rfl (by kernel_rfl) (by kernel_rfl) (by kernel_rfl) (fun _ _ _ h => h) (Or.inl ⟨by rfl, fun w' hh => by go_simp⟩) c3 ?_
 try simp only [Act.put, zz]
 refine wpAnyH_take (i := 1) (v := .pointer (some ⟨rb, 0, none⟩)) rfl (by kernel_rfl) (by kernel_rfl) (by kernel_rfl) (fun _ _ _ h => h) (Or.inl ⟨by rfl, fun w' hh => by go_simp⟩) c3 ?_
 try simp only [Act.put, zz]
 refine wpAnyH_take (i := 2) (v := .pointer (some ⟨rb, 0, none⟩)) rfl (by kernel_rfl) (by kernel_rfl) (by kernel_rfl) (fun _ _ _ h => h) (Or.inl ⟨by rfl, fun w' hh => by go_simp⟩) c3 ?_
 try simp only [Act.put, zz]
 refine wpAnyH_take (i := 3) (v := .pointer (some ⟨rb, 0, none⟩)) rfl (by kernel_rfl) (by kernel_rfl) (by kernel_rfl) (fun _ _ _ h => h) (Or.inl ⟨by rfl, fun w' hh => by go_simp⟩) c3 ?_
 try simp only [Act.put, zz]
 refine wpAnyH_take (i := 4) (v := .pointer (some ⟨rb, 0, none⟩)) rfl (by kernel_rfl) (by kernel_rfl) (by kernel_rfl) (fun _ _ _ h => h) (Or.inl ⟨by rfl, fun w' hh => by go_simp⟩) c3 ?_
 try simp only [Act.put, zz]
 refine wpAnyH_take (i := 5) (v := .pointer (some ⟨rb, 3, none⟩)) rfl (by kernel_rfl) (by kernel_rfl) (by kernel_rfl) (fun _ _ _ h => h) (Or.inl ⟨by rfl, fun w' hh => by go_simp⟩) c3 ?_
 try simp only [Act.put, zz]
 refine wpAnyH_take (i := 6) (v := .int .i64 (a : Nat)) rfl (by kernel_rfl) (by kernel_rfl) (by kernel_rfl) (fun _ _ _ h => h) (Or.inl ⟨by rfl, fun w' hh => by go_simp⟩) c3 ?_
 try simp only [Act.put, zz]
 refine wpAnyH_ready (rs := [7]) (by kernel_rfl) (by simp) ?_
 refine AllReadyH.cons rfl (fun K hK => ?_) AllReadyH.nil
 rw [if_pos (by rfl)]
 go_wp2_with fail
 refine (HB.out w2.drew hr2).mono ?_
 rintro e w3 ⟨⟨l', rfl⟩, hg3⟩
 go_wp2
 exact ⟨rfl, ⟨l', rfl⟩, grown_trans hg1 (grown_trans hg2 (undrew hg3))⟩
theorem thing_all (rb : Nat) (s : List UInt8) (l : Int) (a : Nat) (w : World) (hr : RdF w rb s l a) (hs : s.length <= 3000) (ht : Tab w) (hrb : 0 < rb) :
  Calls Tryz.prog 199 #[.pointer (some ⟨rb, 0, none⟩)] w fun e w' =>
   (∃ y t v, Code.ThingOf a s (some (y, t)) /\ e = .returned v /\ ThingV w' w.heap.size y v /\ RdF w' rb t l a /\ t.length <= s.length /\ w.grownBy w' (some rb)) \/
   (Code.ThingOf a s none /\ Fails w rb 1 e w') := by
 by_cases h : Code.word s = Code.sArg /\ ∃ r, Code.cut [32] (Code.behind s) = some r /\ Code.below a r = none
 ·obtain ⟨h1, r, h2, h3⟩ := h
  refine (thing_argNo rb s r l a w hr hs h1 h2 h3).mono fun e w' hf => Or.inr ⟨?_, hf⟩
  have := Code.ThingOf.arg (args := a) h1
  rw [h2, Option.bind_some, h3] at this
  exact this
 ·exact thing_any rb s l a w hr hs ht hrb fun h1 r h2 h3 => h ⟨h1, r, h2, h3⟩
namespace Code
theorem ValuesOf.nextNo {a : Nat} {b : Bool} {s : List UInt8} (h : ValuesOf a b s none) :
  ∃ r, cut [118] s = some r /\ (value s = none \/ ∃ v t, value s = some (v, t) /\ (cut [32, 61, 32] t = none \/ ∃ u, cut [32, 61, 32] t = some u /\ (ThingOf a u none \/ ∃ y x, ThingOf a u (some (y, x)) /\
   ((y.isPhi = true /\ b = false) \/ ((y.isPhi = true -> b = true) /\ (cut [10] x = none \/ ∃ z, cut [10] x = some z /\ ValuesOf a y.isPhi z none)))))) := by
 generalize ho : none = o at h
 cases h with
 | done h1 => cases ho
 | badV h1 h2 => exact ⟨_, h1, Or.inl h2⟩
 | badEq h1 h2 h3 => exact ⟨_, h1, Or.inr ⟨_, _, h2, Or.inl h3⟩⟩
 | badThing h1 h2 h3 h4 => exact ⟨_, h1, Or.inr ⟨_, _, h2, Or.inr ⟨_, h3, Or.inl h4⟩⟩⟩
 | badPhi h1 h2 h3 h4 h5 => exact ⟨_, h1, Or.inr ⟨_, _, h2, Or.inr ⟨_, h3, Or.inr ⟨_, _, h4, Or.inl ⟨h5, rfl⟩⟩⟩⟩⟩
 | badEnd h1 h2 h3 h4 h5 h6 => exact ⟨_, h1, Or.inr ⟨_, _, h2, Or.inr ⟨_, h3, Or.inr ⟨_, _, h4, Or.inr ⟨h5, Or.inl h6⟩⟩⟩⟩⟩
 | more h1 h2 h3 h4 h5 h6 h7 =>
  rename_i q
  cases q with
  | none => exact ⟨_, h1, Or.inr ⟨_, _, h2, Or.inr ⟨_, h3, Or.inr ⟨_, _, h4, Or.inr ⟨h5, Or.inr ⟨_, h6, h7⟩⟩⟩⟩⟩⟩
  | some q => cases ho
end Code
def cut3 (a : Nat) (b ph : Bool) (x : List UInt8) : Prop := (ph = true /\ b = false) \/ ((ph = true -> b = true) /\ (Code.cut [10] x = none \/ ∃ z, Code.cut [10] x = some z /\ Code.ValuesOf a ph z none))
def cut2' (a : Nat) (b : Bool) (u : List UInt8) : Prop := Code.ThingOf a u none \/ ∃ y x, Code.ThingOf a u (some (y, x)) /\ cut3 a b y.isPhi x
def cut1 (a : Nat) (b : Bool) (t : List UInt8) : Prop := Code.cut [32, 61, 32] t = none \/ ∃ u, Code.cut [32, 61, 32] t = some u /\ cut2' a b u
theorem thing_assert {w : World} {base : Nat} {y : Code.Thing} {th : Value} (h : ThingV w base y th) :
  ∃ T pv p n c, th = .iface T pv /\ ∀ w, (Instr.typeAssert (.iface T pv) 167 232 true).run Tryz.prog w = .ok (.tuple #[.agg #[.slice p n c], .bool y.isPhi]) w := by
 cases y with
 | phi of =>
  obtain ⟨r, rfl, hro⟩ := h
  obtain ⟨p, c, rfl⟩ := own_slice hro
  exact ⟨_, _, _, _, _, rfl, fun w => isPhi_phi _ w⟩
 | arg m => exact ⟨_, _, _, _, _, h, fun w => isPhi_arg _ w⟩
 | const m => exact ⟨_, _, _, _, _, h, fun w => isPhi_const _ w⟩
 | apply k of =>
  obtain ⟨r, rfl, hro⟩ := h
  exact ⟨_, _, _, _, _, rfl, fun w => isPhi_apply _ w⟩
def SomeVals (w : World) (base : Nat) (v : Value) (n : Nat) : Prop := ∃ cs, w.ownsRow base 169 2 v n cs
theorem SomeVals.kept {w w' : World} {base rb n : Nat} {v : Value} (h : SomeVals w base v n) {C : Array Value} {z : Nat × Nat} (hb : w.heap[rb]? = some (.cells C 142 z)) (hg : w.grownBy w' (some rb)) : SomeVals w' base v n := by
 obtain ⟨cs, h⟩ := h
 exact ⟨cs, own_kept hb hg h (by decide)⟩
theorem values_no (rb : Nat) (s : List UInt8) (l : Int) (a : Nat) (w : World) (hr : RdF w rb s l a) (hs : s.length <= 3000) (hl : 0 <= l /\ l + s.length <= 100000) (ht : Tab w) (hrb : 0 < rb) (hv : Code.ValuesOf a true s none) :
  Calls Tryz.prog 159 #[.pointer (some ⟨rb, 0, none⟩)] w fun e w' => Fails w rb 1 e w' := by
 obtain ⟨i0, hi, hz0, hz1, hz2⟩ := info_parts infoVal
 have HT := hide ht
 clear ht
 go_enter Tryz.func159, Tryz.ntmps159
 go_wp2
 go_loopw [3, 4] (fun v ph wr => ∃ (k : Nat) (s' : List UInt8) (l' : Int) (b : Bool), ph = .bool b /\ SomeVals wr w.heap.size v k /\ RdF wr rb s' l' a /\ 0 <= l' /\ l' + s'.length <= 100000 /\ s'.length <= s.length /\ w.grownBy wr (some rb) /\
   k + s'.length <= s.length /\ Hid (Code.ValuesOf a b s' none))
  (fun _ _ wr => restLen wr rb)
 case atStart => exact ⟨0, s, l, true, rfl, ⟨[], World.ownsRow_nil _ _ _ _⟩, hr, hl.1, hl.2, Nat.le_refl _, grown_refl _ _, by simp, hide hv⟩
 case round =>
  obtain ⟨k, s', l', b, rfl, hrep, hrd, hl0, hl1, hsl, hgr, hdl, hsp⟩ := hrel
  have hm0 := hide (restLen_of hrd)
  have c0 := hrd.c0
  obtain ⟨r1, h1, hrest⟩ := hsp.out.nextNo
  have HC := hide h1
  have HR := hide hrest
  clear hsp h1 hrest
  go_wp2_with fail
  refine (hasPrefix2_any _ [118] wr (by omega) (by simp)).mono ?_
  rintro e wr ⟨rfl, rfl⟩
  rw [HC.out]
  clear HC c0
  go_wp2_with fail
  refine (value_any rb s' l' a wr hrd (by omega)).mono ?_
  rintro e w1 (⟨n, t1, hc, rfl, hr1, hg1⟩ | ⟨hc, ⟨lx, rfl⟩, hg1⟩)
  case inr =>
   go_wp2
   exact ⟨rfl, ⟨lx, rfl⟩, grown_trans hgr hg1⟩
  have hlv := Code.value_some hc
  have hrep1 := hrep.kept hrd hg1
  have hgr1 := grown_trans hgr hg1
  have HR1 : Hid (cut1 a b t1) := by
   rcases HR.out with h | ⟨v, t, h, h'⟩
   ·rw [hc] at h; cases h
   ·rw [hc] at h; cases h; exact h'
  clear hrep hrd hgr hg1 hc HR
  go_wp2_with fail
  refine (take_any rb _ t1 [32, 61, 32] l' 1 _ w1 hr1 (by omega) (by simp)).mono ?_
  rintro e w2 (⟨u, hc, rfl, hr2, hg2⟩ | ⟨hc, ⟨lx, rfl⟩, hg2⟩)
  case inr =>
   go_wp2
   exact ⟨rfl, ⟨lx, rfl⟩, grown_trans hgr1 hg2⟩
  have hl3 := Code.cut_length hc
  simp only [List.length_cons, List.length_nil] at hl3
  have hrep2 := hrep1.kept hr1 hg2
  have hgr2 := grown_trans hgr1 hg2
  have HR2 : Hid (cut2' a b u) := by
   rcases HR1.out with h | ⟨u', h, h'⟩
   ·rw [hc] at h; cases h
   ·rw [hc] at h; cases h; exact h'
  clear hrep1 hr1 hgr1 hg2 hc HR1
  have ht2 := HT.out.grown hgr2 hrb
  go_wp2_with fail
  refine (thing_all rb u l' a w2 hr2 (by omega) ht2 hrb).mono ?_
  rintro e w3 (⟨y, x, th, hc, rfl, hth, hr3, hxl, hg3⟩ | ⟨hc, ⟨lx, rfl⟩, hg3⟩)
  case inr =>
   go_wp2
   exact ⟨rfl, ⟨lx, rfl⟩, grown_trans hgr2 hg3⟩
  have hrep3 := hrep2.kept hr2 hg3
  have hgr3 := grown_trans hgr2 hg3
  have HR3 : Hid (cut3 a b y.isPhi x) := by
   rcases HR2.out with h | ⟨y', x', h, h'⟩
   ·cases hc.det h
   ·have := hc.det h
    simp only [Option.some.injEq, Prod.mk.injEq] at this
    obtain ⟨rfl, rfl⟩ := this
    exact h'
  obtain ⟨T, pv, p, n0, c, rfl, hta⟩ := thing_assert hth
  clear hrep2 hr2 hgr2 hg3 hth ht2 HR2 hc
  generalize y.isPhi = ph at *
  obtain ⟨cs3, hcs3⟩ := hrep3
  obtain ⟨ps, cps, rfl⟩ := own_slice hcs3
  rcases HR3.out with ⟨rfl, rfl⟩ | ⟨hp, hrest⟩
  ·clear HR3
   go_wp2_with fail
   generalize hw4 : w3.alloc _ = w4
   have hr4 : RdF w4 rb x l' a := by rw [<- hw4]; exact stay_alloc hr3
   have hgr4 : w.grownBy w4 (some rb) := grown_trans hgr3 (by rw [<- hw4]; exact grown_alloc _ _ _)
   clear hw4
   refine (fail_any rb _ x l' 1 _ w4 hr4).mono ?_
   rintro e w5 ⟨⟨lx, rfl⟩, hg5⟩
   go_wp2
   exact ⟨rfl, ⟨lx, rfl⟩, grown_trans hgr4 hg5⟩
  ·have HX := hide hrest
   clear HR3 hrest
   cases ph <;> cases b
   case true.false => exact absurd (hp rfl) (by decide)
   all_goals
    clear hp
    go_wp2_with fail
    generalize hw4 : w3.alloc _ = w4
    have hr4 : RdF w4 rb x l' a := by rw [<- hw4]; exact stay_alloc hr3
    have hgr4 : w.grownBy w4 (some rb) := grown_trans hgr3 (by rw [<- hw4]; exact grown_alloc _ _ _)
    have hb4 : Below w3.heap.size w3 w4 := by rw [<- hw4]; exact below_al (Below.refl _ _) _
    have hcs4 := own_below hcs3 hb4
    clear hw4 hcs3 hb4
    refine (lineEnd_any rb x l' a w4 hr4 (by omega) ⟨hl0, by omega⟩).mono ?_
    rintro e w5 (⟨z, hc, rfl, hr5, hg5⟩ | ⟨hc, ⟨lx, rfl⟩, hg5⟩)
    case inr =>
     go_wp2
     exact ⟨rfl, ⟨lx, rfl⟩, grown_trans hgr4 hg5⟩
    have hl6 := Code.cut_length hc
    simp only [List.length_cons, List.length_nil] at hl6
    first
     | (have HN : Hid (Code.ValuesOf a true z none) := by
          rcases HX.out with h | ⟨z', h, h'⟩
          ·rw [hc] at h; cases h
          ·rw [hc] at h; cases h; exact h')
     | (have HN : Hid (Code.ValuesOf a false z none) := by
          rcases HX.out with h | ⟨z', h, h'⟩
          ·rw [hc] at h; cases h
          ·rw [hc] at h; cases h; exact h')
    have hgr5 := grown_trans hgr4 hg5
    have hz := hgr5.size
    obtain ⟨cs, hcs1⟩ := SomeVals.kept ⟨_, hcs4⟩ hr4 hg5
    clear hc HX hcs4
    go_wp2_with (first | (at_builtin; refine wpList_append_own _ rfl _ _ 161 rfl w.heap.size 169 i0 (.agg #[.int .i64 0, .nilIface]) 2 24 Tryz.underlying161 hi hz0 hz1 hz2 rfl (by decide) _ _ _ rfl (hcs1.alloc _) ⟨_, 0, none⟩ 1 1 [.int .i64 n, .iface T pv] rfl rfl (cell_two_new _ _ _ _) (fun x hx => by simp at hx; rcases hx with rfl | rfl <;> rfl) (by unfold maxLen; omega) (by omega) (by simp; omega) ?_; intro v' w6 hown' hgrow6 hnil6))
    have hr6 : RdF w6 rb z (l' + 1) a := stay_grown (hcs1.alloc _) hgrow6 (stay_alloc hr5) (by decide)
    refine ⟨⟨k + 1, z, l' + 1, _, rfl, ⟨_, hown'⟩, hr6, by omega, by omega, by omega, grown_app hgr5 hgrow6 (fun q hq => (hcs1.lt q hq).1), by omega, HN⟩, ?_⟩
    rw [hm0.out, restLen_of hr6]; omega
namespace Code
theorem PhiOf.total : ∀ (n : Nat) (s : List UInt8), s.length <= n -> ∃ o, PhiOf s o
 | 0, s, h => by
  have hs : s = [] := List.eq_nil_of_length_eq_zero (by omega)
  subst hs
  exact ⟨_, PhiOf.done rfl⟩
 | n + 1, s, h => by
  cases hc : cut [32] s with
  | none => exact ⟨_, PhiOf.done hc⟩
  | some r =>
   cases hv : value r with
   | none => exact ⟨_, PhiOf.bad hc hv⟩
   | some p =>
    have h1 := cut_length hc
    have h2 := (value_some (show value r = some (p.1, p.2) from hv)).2
    simp only [List.length_cons, List.length_nil] at h1
    obtain ⟨o, ho⟩ := PhiOf.total n p.2 (by omega)
    exact ⟨_, PhiOf.more hc (show value r = some (p.1, p.2) from hv) ho⟩
theorem ThingOf.total (a : Nat) (s : List UInt8) : ∃ o, ThingOf a s o := by
 by_cases h1 : word s = sPhi
 ·obtain ⟨o, ho⟩ := PhiOf.total _ (behind s) (Nat.le_refl _)
  exact ⟨_, ThingOf.phi h1 ho⟩
 ·by_cases h2 : word s = sArg
  ·exact ⟨_, ThingOf.arg h2⟩
  ·by_cases h3 : word s = sConst
   ·exact ⟨_, ThingOf.const h3⟩
   ·exact ⟨_, ThingOf.apply h1 h2 h3⟩
theorem PhiOf.length {s t : List UInt8} {l : List Nat} {o : Option (List Nat × List UInt8)} (h : PhiOf s o) (ho : o = some (l, t)) : t.length <= s.length := by
 induction h generalizing l with
 | done h1 => cases ho; exact Nat.le_refl _
 | bad h1 h2 => cases ho
 | more h1 h2 h3 ih =>
  rename_i o'
  cases o' with
  | none => cases ho
  | some q =>
   simp only [Option.map_some, Option.some.injEq, Prod.mk.injEq] at ho
   obtain ⟨-, rfl⟩ := ho
   have g1 := cut_length h1
   have g2 := (value_some h2).2
   have := ih (l := q.1) rfl
   simp only [List.length_cons, List.length_nil] at g1
   omega
theorem ThingOf.length {a : Nat} {s t : List UInt8} {y : Thing} (h : ThingOf a s (some (y, t))) : t.length <= s.length := by
 have hb : (behind s).length <= s.length := rest_length _ _ _
 generalize ho : some (y, t) = o at h
 cases h with
 | phi h1 h2 =>
  rename_i o'
  cases o' with
  | none => cases ho
  | some q =>
   simp only [Option.map_some, Option.some.injEq, Prod.mk.injEq] at ho
   have := h2.length (show some q = some (q.1, q.2) from rfl)
   rw [ho.2]; omega
 | arg h1 =>
  cases hc : cut [32] (behind s) with
  | none => rw [hc] at ho; cases ho
  | some r =>
   rw [hc, Option.bind_some] at ho
   cases hv : below a r with
   | none => rw [hv] at ho; cases ho
   | some p =>
    rw [hv] at ho
    simp only [Option.map_some, Option.some.injEq, Prod.mk.injEq] at ho
    have g1 := cut_length hc
    have g2 := (below_some (show below a r = some (p.1, p.2) from hv)).2
    rw [ho.2]; omega
 | const h1 =>
  cases hc : cut [32] (behind s) with
  | none => rw [hc] at ho; cases ho
  | some r =>
   rw [hc, Option.bind_some] at ho
   cases hv : signed r with
   | none => rw [hv] at ho; cases ho
   | some p =>
    rw [hv] at ho
    simp only [Option.map_some, Option.some.injEq, Prod.mk.injEq] at ho
    have g1 := cut_length hc
    have g2 := (signed_length (show signed r = some (p.1, p.2) from hv)).1
    rw [ho.2]; omega
 | apply h1 h2 h3 =>
  unfold Code.apply at ho
  cases hc : opNamed (word s) with
  | none => rw [hc] at ho; cases ho
  | some k =>
   rw [hc, Option.bind_some] at ho
   cases hv : ofN (opOf k) (behind s) with
   | none => rw [hv] at ho; cases ho
   | some p =>
    rw [hv] at ho
    simp only [Option.map_some, Option.some.injEq, Prod.mk.injEq] at ho
    have g2 := (ofN_length (opOf k) (show ofN (opOf k) (behind s) = some (p.1, p.2) from hv)).2.1
    rw [ho.2]; omega
theorem ValuesOf.total (a : Nat) : ∀ (n : Nat) (b : Bool) (s : List UInt8), s.length <= n -> ∃ o, ValuesOf a b s o
 | 0, b, s, h => by
  have hs : s = [] := List.eq_nil_of_length_eq_zero (by omega)
  subst hs
  exact ⟨_, ValuesOf.done rfl⟩
 | n + 1, b, s, h => by
  cases hc : cut [118] s with
  | none => exact ⟨_, ValuesOf.done hc⟩
  | some r =>
   cases hv : value s with
   | none => exact ⟨_, ValuesOf.badV hc hv⟩
   | some p =>
    have hv' : value s = some (p.1, p.2) := hv
    have h2 := (value_some hv').2
    cases hq : cut [32, 61, 32] p.2 with
    | none => exact ⟨_, ValuesOf.badEq hc hv' hq⟩
    | some u =>
     have h3 := cut_length hq
     obtain ⟨o, ho⟩ := ThingOf.total a u
     cases o with
     | none => exact ⟨_, ValuesOf.badThing hc hv' hq ho⟩
     | some yx =>
      obtain ⟨y, x⟩ := yx
      have h4 := ho.length
      by_cases hp : y.isPhi = true /\ b = false
      ·obtain ⟨hp, rfl⟩ := hp
       exact ⟨_, ValuesOf.badPhi hc hv' hq ho hp⟩
      ·have hp' : y.isPhi = true -> b = true := fun h => by
        cases b
        ·exact absurd ⟨h, rfl⟩ hp
        ·rfl
       cases hz : cut [10] x with
       | none => exact ⟨_, ValuesOf.badEnd hc hv' hq ho hp' hz⟩
       | some z =>
        have h5 := cut_length hz
        simp only [List.length_cons, List.length_nil] at h3 h5
        obtain ⟨o, hm⟩ := ValuesOf.total a n y.isPhi z (by omega)
        exact ⟨_, ValuesOf.more hc hv' hq ho hp' hz hm⟩
end Code
theorem block_no (rb : Nat) (s : List UInt8) (num : Nat) (l : Int) (a : Nat) (w : World) (hr : RdF w rb s l a) (hs : s.length <= 3000) (hl : 0 <= l /\ l + s.length <= 100000) (ht : Tab w) (hrb : 0 < rb) (hb : ∀ blk t, ¬ Code.BlockIs a num s blk t) :
  Calls Tryz.prog 118 #[.pointer (some ⟨rb, 0, none⟩), .int .i64 (num : Nat)] w fun e w' => Fails w rb 1 e w' := by
 obtain ⟨hl0, hl1⟩ := hl
 have HT := hide ht
 have HB := hide hb
 clear ht hb
 have hrlt := hr.lt
 go_enter Tryz.func118, Tryz.ntmps118
 go_wp2_with fail
 generalize hw0 : w.alloc _ = w0
 have hg0 : w.grownBy w0 (some rb) := by rw [<- hw0]; exact grown_alloc _ _ _
 have hr0 : RdF w0 rb s l a := by rw [<- hw0]; exact stay_alloc hr
 clear hw0
 refine (take_any rb _ s [98] l 1 _ w0 hr0 hs (by simp)).mono ?_
 rintro e w1 (⟨r1, he, rfl, hr1, hg1⟩ | ⟨he, ⟨lx, rfl⟩, hg1⟩)
 case inr =>
  go_wp2
  exact ⟨rfl, ⟨lx, rfl⟩, grown_trans hg0 hg1⟩
 have HB1 := hide fun (r2 : List UInt8) (h2 : Code.below 8 r1 = some (num, r2)) (r3 : List UInt8) (h3 : Code.cut [58] r2 = some r3) (r4 : List UInt8) (h4 : Code.cut [10] r3 = some r4) vals r5 (h5 : Code.ValuesOf a true r4 (some (vals, r5))) z r6 (h6 : Code.last r5 = some (z, r6)) r7 (h7 : Code.cut [10] r6 = some r7) => HB.out _ _ (Code.BlockIs.mk he h2 h3 h4 h5 h6 h7)
 have l1 := Code.cut_length he
 simp only [List.length_cons, List.length_nil] at l1
 have hgr1 := grown_trans hg0 hg1
 clear HB he hg0 hg1
 go_wp2_with fail
 refine (below_any rb _ r1 l 1 8 _ w1 hr1 (by omega)).mono ?_
 rintro e w2 (⟨n, r2, he, rfl, hr2, hg2⟩ | ⟨he, ⟨lx, rfl⟩, hg2⟩)
 case inr =>
  go_wp2
  exact ⟨rfl, ⟨lx, rfl⟩, grown_trans hgr1 hg2⟩
 have l2 := (Code.below_some he).2
 have hgr2 := grown_trans hgr1 hg2
 by_cases hn : n = num
 case neg =>
  have hn' : (n : Int) ≠ (num : Int) := by omega
  have hn2 : ((n : Int) == (num : Int)) = false := by simp; omega
  clear HB1 he
  go_wp2_with fail
  refine (fail_any rb _ r2 l 1 _ w2 hr2).mono ?_
  rintro e w3 ⟨⟨lx, rfl⟩, hg3⟩
  go_wp2
  exact ⟨rfl, ⟨lx, rfl⟩, grown_trans hgr2 hg3⟩
 subst hn
 have HB2 := hide (HB1.out r2 he)
 clear HB1 he hgr1 hg2
 go_wp2_with fail
 refine (take_any rb _ r2 [58] l 1 _ w2 hr2 (by omega) (by simp)).mono ?_
 rintro e w3 (⟨r3, he, rfl, hr3, hg3⟩ | ⟨he, ⟨lx, rfl⟩, hg3⟩)
 case inr =>
  go_wp2
  exact ⟨rfl, ⟨lx, rfl⟩, grown_trans hgr2 hg3⟩
 have l3 := Code.cut_length he
 have HB3 := hide (HB2.out r3 he)
 have hgr3 := grown_trans hgr2 hg3
 clear HB2 he hgr2 hg3
 go_wp2_with fail
 refine (lineEnd_any rb r3 l a w3 hr3 (by omega) ⟨hl0, by omega⟩).mono ?_
 rintro e w4 (⟨r4, he, rfl, hr4, hg4⟩ | ⟨he, ⟨lx, rfl⟩, hg4⟩)
 case inr =>
  go_wp2
  exact ⟨rfl, ⟨lx, rfl⟩, grown_trans hgr3 hg4⟩
 have l4 := Code.cut_length he
 have HB4 := hide (HB3.out r4 he)
 have hgr4 := grown_trans hgr3 hg4
 simp only [List.length_cons, List.length_nil] at l3 l4
 clear HB3 he hgr3 hg4
 obtain ⟨o, ho⟩ := Code.ValuesOf.total a _ true r4 (Nat.le_refl _)
 have HO := hide ho
 clear ho
 go_wp2_with fail
 cases o with
 | none =>
  refine (values_no rb r4 (l + 1) a w4 hr4 (by omega) ⟨by omega, by omega⟩ (HT.out.grown hgr4 hrb) hrb HO.out).mono ?_
  rintro e w5 ⟨⟨lx, rfl⟩, hg5⟩
  go_wp2
  exact ⟨rfl, ⟨lx, rfl⟩, grown_trans hgr4 hg5⟩
 | some q =>
  obtain ⟨vals, r5⟩ := q
  have HB5 := hide (HB4.out vals r5 HO.out)
  refine (values_ok rb r4 r5 vals (l + 1) a w4 hr4 (by omega) ⟨by omega, by omega⟩ (HT.out.grown hgr4 hrb) hrb HO.out).mono ?_
  rintro e w5 ⟨v, l5, rfl, hrep5, hr5, hl50, hl51, l5', hg5⟩
  have hgr5 := grown_trans hgr4 hg5
  clear HO HB4 hgr4 hg5
  obtain ⟨cs, hcs, hcs2⟩ := hrep5
  obtain ⟨p, c, rfl⟩ := own_slice hcs
  clear hcs hcs2
  go_wp2_with fail
  refine (last_any rb r5 l5 a w5 hr5 (by omega)).mono ?_
  rintro e w6 (⟨z, r6, he, rfl, hr6, hg6⟩ | ⟨he, ⟨lx, rfl⟩, hg6⟩)
  case inr =>
   go_wp2
   exact ⟨rfl, ⟨lx, rfl⟩, grown_trans hgr5 hg6⟩
  have l6 := Code.last_length he
  have HB6 := hide (HB5.out z r6 he)
  have hgr6 := grown_trans hgr5 hg6
  obtain ⟨T, pv, hzv⟩ : ∃ T pv, lastV z = .iface T pv := by cases z <;> exact ⟨_, _, rfl⟩
  simp only [hzv]
  clear hzv HB5 he hgr5 hg6
  go_wp2_with fail
  refine (lineEnd_any rb r6 l5 a w6 hr6 (by omega) ⟨hl50, by omega⟩).mono ?_
  rintro e w7 (⟨r7, he, rfl, hr7, hg7⟩ | ⟨he, ⟨lx, rfl⟩, hg7⟩)
  ·exact absurd he (HB6.out r7)
  ·go_wp2
   exact ⟨rfl, ⟨lx, rfl⟩, grown_trans hgr6 hg7⟩
end Go.Proofs.YtedkjanogjglkaaGreatDoor
