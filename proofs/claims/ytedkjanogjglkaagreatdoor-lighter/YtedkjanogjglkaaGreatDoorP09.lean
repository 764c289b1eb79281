/-
  Parts of the proof: CNo3, XEdges, CNo4, KText, KLine.
-/
import Derived.Test.YtedkjanogjglkaaGreatDoorP08
import Derived.Test.YtedkjanogjglkaaGreatDoorP04
import Derived.Test.YtedkjanogjglkaaGreatDoorP07
import Derived.Test.YtedkjanogjglkaaGreatDoorP01
import Derived.Test.YtedkjanogjglkaaGreatDoorP03
set_option maxRecDepth 100000
set_option maxHeartbeats 8000000
namespace Go.Proofs.YtedkjanogjglkaaGreatDoor
open Go.RowKit
namespace Code
def AtOk (bks : List Blk) (A : Sets) (j : Nat) (h : j < bks.length) (h' : j < A.length) : Prop := ValsOk A[j] bks[j].values /\ hasAll (addAll A[j] bks[j].values) (useL bks[j].last) = true /\
  ∀ k (hk : k < (tg bks[j].last).length) (ht : (tg bks[j].last)[k] < bks.length), PhisMade bks[(tg bks[j].last)[k]].values ((edges bks).places j k) (addAll A[j] bks[j].values)
end Code
theorem madeAhead_no (args : Nat) (bks : List Code.Blk) (p : Option Addr) (c : Nat) (base : Nat) (w : World) (hf : RepBlks w base (.slice p bks.length c) bks) (hn : bks.length <= 8) (hn0 : 0 < bks.length) (hl : Code.Small bks) (ht : ∀ b ∈ bks, ∀ t ∈ Code.tg b.last, t < bks.length)
  (hph : ∀ j (h : j < bks.length) k (hk : k < (Code.tg bks[j].last).length) (ht : (Code.tg bks[j].last)[k] < bks.length), ∀ v ∈ bks[(Code.tg bks[j].last)[k]].values, ∀ of, v.thing = .phi of -> ∃ h : (Code.edges bks).places j k < of.length, of[(Code.edges bks).places j k] < 60)
  (ha : ¬ ∀ A, A.length = bks.length -> All60 A -> Code.Iter bks (Code.startTo bks.length bks.length) A -> Code.AheadOk bks A) :
  Calls Tryz.prog 123 #[.agg #[.int .i64 (args : Nat), .slice p bks.length c]] w fun e w' => FailsB w e w' := by
 have HF := hide hf
 have HTG := hide ht
 have HL := hide hl
 have HPH := hide hph
 have HLL : Hid (∀ b ∈ bks, b.values.length <= 100000) := hide fun b hb => (hl b hb).1
 clear hf ht hl hph
 go_enter Tryz.func123, Tryz.ntmps123
 go_wp2_with fail
 generalize hw0 : w.alloc _ = w0
 have hx0 : w0.heap[w.heap.size]? = some (.cells #[.int .i64 (args : Nat), .slice p bks.length c] 78) := by rw [<- hw0]; exact heap_alloc_new w _
 have hb0 : Below w.heap.size w w0 := by rw [<- hw0]; exact below_al (Below.refl _ _) _
 have hz0 : w0.heap.size = w.heap.size + 1 := by rw [<- hw0]; simp
 clear hw0
 refine (edges_any args bks p c base w0 (HF.out.below hb0) hn HTG.out).mono ?_
 rintro e w1 ⟨mb, gc, n, rfl, hmb, hgc, hE, _, hb1⟩
 have hx1 := (hb1.block _ (lt_of_block hx0)).trans hx0
 have hbw1 : Below w.heap.size w w1 := hb0.trans (hb1.mono hb0.size)
 have hx1a := blk_cell hx1 0 _ rfl
 have hx1b := blk_cell hx1 1 _ rfl
 clear hx0 hb0 hb1
 go_wp2_with fail
 refine (madeAhead_any args bks p c base w1 (HF.out.below hbw1) hn hn0 (fun b hb => ⟨(HL.out b hb).1, fun v hv => ((HL.out b hb).2.1 v hv).1⟩) HTG.out).mono ?_
 rintro e w2 ⟨gA, A, rfl, hgA, hA, hA6, hrA, hit, hb2⟩
 have HAO : Hid (¬ Code.AheadOk bks A) := hide fun h => ha fun A' _ _ hit' => by rw [<- Code.Iter.det hit hit']; exact h
 have hx2 := (hb2.block _ (lt_of_block hx1)).trans hx1
 have hE2 := hE.below hb2
 have hbw2 : Below w.heap.size w w2 := hbw1.trans (hb2.mono hbw1.size)
 have hx2b := blk_cell hx2 1 _ rfl
 have hmb1 := hE.lt
 have hz1 := hbw1.size
 have hmbA : mb < gA := by omega
 clear hx1 hx1a hx1b hE hbw1 hb2 hit ha
 go_wp2_with fail
 obtain ⟨p', c', hpe, hblk⟩ := HF.out.open
 simp only [Value.slice.injEq] at hpe
 obtain ⟨rfl, _, rfl⟩ := hpe
 have HBLK := hide hblk
 clear hblk hx2b
 go_loopw [22] (fun i wr => ∃ j : Nat, j <= bks.length /\ i = .int .i64 j /\ setsRow wr gA A /\ EMap wr mb n (Code.edges bks).places /\ wr.heap[w.heap.size]? = some (.cells #[.int .i64 (args : Nat), .slice p bks.length c] 78) /\ Below w.heap.size w wr /\ Hid (∀ j' (h : j' < bks.length) (h' : j' < A.length), j' < j -> Code.AtOk bks A j' h h')) (fun i _ => bks.length - (intOf i).toNat)
 case atStart => exact ⟨0, by omega, rfl, hrA, hE2, hx2, hbw2, hide fun j' h h' h'' => by omega⟩
 case round =>
  obtain ⟨j, hj, rfl, hrs, hEm, hxs, hbs, hspo⟩ := hrel
  clear hrA hE2 hx2 hbw2
  have hzs := hbs.size
  by_cases hlt : j < bks.length
  ·obtain ⟨gb, vs, rfl, hg, c0, c1, hvs⟩ := HBLK.out j hlt
   obtain ⟨hlen, hnum, hul, hul6⟩ := HL.out bks[j] (List.getElem_mem hlt)
   have hjA : j < A.length := by omega
   have HNJ : Hid (Code.AtOk bks A j hlt hjA -> ∀ j' (h : j' < bks.length) (h' : j' < A.length), j' < j + 1 -> Code.AtOk bks A j' h h') := hide fun e j' h h' h'' => by
    by_cases hq : j' < j
    ·exact hspo.out j' h h' hq
    ·obtain rfl : j' = j := by omega
     exact e
   have HNJ2 : Hid ((Code.ValsOk A[j] bks[j].values /\ Code.hasAll (Code.addAll A[j] bks[j].values) (Code.useL bks[j].last) = true /\ ∀ k (hk : k < (Code.tg bks[j].last).length) (ht : (Code.tg bks[j].last)[k] < bks.length), Code.PhisMade bks[(Code.tg bks[j].last)[k]].values ((Code.edges bks).places j k) (Code.addAll A[j] bks[j].values)) -> ∀ j' (h : j' < bks.length) (h' : j' < A.length), j' < j + 1 -> Code.AtOk bks A j' h h') := HNJ
   have HPHJ := hide (HPH.out j hlt)
   clear hspo HNJ
   obtain ⟨pv, cv, rfl, hval⟩ := hvs.open
   have c0' : wr.cell? ⟨gb, j * 2, none⟩ = some (.slice pv bks[j].values.length cv) := by rw [(bcell hbs).1 gb _ hg]; exact c0
   obtain ⟨T, zv, hzv⟩ := lastV_shape bks[j].last
   have c1' : wr.cell? ⟨gb, j * 2 + 1, none⟩ = some (.iface T zv) := by rw [(bcell hbs).1 gb _ hg, <- hzv]; exact c1
   have HTA := hide (targets_any bks[j].last)
   have HUL := hide (usesOfLast_any bks[j].last)
   rw [hzv] at HTA HUL
   have htb : ∀ t ∈ Code.tg bks[j].last, t < bks.length := HTG.out bks[j] (List.getElem_mem hlt)
   have htl := Code.tg_length bks[j].last
   have hR60 : A[j].length = 60 := hA6 _ (List.getElem_mem hjA)
   have HRG : Hid (∀ w', setsRow w' gA A -> w'.rangeAt gA (j * 60) (setL A[j])) := hide fun w' h => h.range hA6 j hjA
   have HV := hide hval
   have HNUM := hide hnum
   have HUL6 := hide hul6
   generalize Code.useL bks[j].last = ul at *
   generalize Code.tg bks[j].last = tl at *
   generalize bks[j].values = vals at *
   generalize A[j] = Rj at *
   clear c0 c1 hvs hzv hval hnum hul6
   have hjl : (j : Int) < (bks.length : Int) := by omega
   have hiR := setSize Rj hR60
   have hiR' : (Tryz.prog.info? 281).map (·.size) = some (setL Rj).toArray.size := setSize' Rj hR60
   have hoR : (setL Rj).toArray.all (·.oneCell') = true := setOne Rj
   have hlR : (setL Rj).toArray.size = 60 := by rw [List.size_toArray, setL_length]; exact hR60
   have hcc : (((wr.alloc (.cells #[.slice pv vals.length cv, .iface T zv] 165)).alloc (.cells #[.bool false, .bool false, .bool false, .bool false, .bool false, .bool false, .bool false, .bool false, .bool false, .bool false, .bool false, .bool false, .bool false, .bool false, .bool false, .bool false, .bool false, .bool false, .bool false, .bool false, .bool false, .bool false, .bool false, .bool false, .bool false, .bool false, .bool false, .bool false, .bool false, .bool false, .bool false, .bool false, .bool false, .bool false, .bool false, .bool false, .bool false, .bool false, .bool false, .bool false, .bool false, .bool false, .bool false, .bool false, .bool false, .bool false, .bool false, .bool false, .bool false, .bool false, .bool false, .bool false, .bool false, .bool false, .bool false, .bool false, .bool false, .bool false, .bool false, .bool false] 281)).setCells (wr.heap.size + 1) 0 (setL Rj)).cell? ⟨wr.heap.size, 0, none⟩ = some (.slice pv vals.length cv) := blk_cell (stay_cells (stay_alloc (heap_alloc_new wr _)) (by omega)) 0 _ rfl
   go_wp2_with (first | refine wpList_load_mid rfl 281 _ rfl gA (j * 60) rfl (setL Rj) _ (HRG.out _ (stay_alloc hrs)) Tryz.underlying281 rfl hiR ?_ | (refine wpList_store_mid rfl 281 _ _ rfl (wr.heap.size + 1) 0 (setL Rj).toArray rfl rfl ?_ hiR' hoR ?_; (rw [hlR]; (have h := newThere (wr.alloc (.cells #[.slice pv vals.length cv, .iface T zv] 165))); (rw [alloc_size] at h); exact h); (rw [show (setL Rj).toArray.toList = setL Rj from rfl])))
   generalize hw4 : World.setCells _ _ _ _ = w4
   have hM4 : setRow w4 (wr.heap.size + 1) Rj := by
    have h := newSet (wr.alloc (.cells #[.slice pv vals.length cv, .iface T zv] 165)) Rj hR60
    rw [alloc_size] at h
    rw [<- hw4]; exact h
   have hb4 : Below wr.heap.size wr w4 := by rw [<- hw4]; exact below_cells (below_al (below_al (Below.refl _ _) _) _) (Nat.le_succ _) _ _
   have hcp4 : w4.heap[wr.heap.size]? = some (.cells #[.slice pv vals.length cv, .iface T zv] 165) := by
    rw [<- hw4]; exact stay_cells (stay_alloc (heap_alloc_new wr _)) (by omega)
   have hbw4 : Below w.heap.size w w4 := hbs.trans (hb4.mono hzs)
   have hrs4 : setsRow w4 gA A := (hb4.block _ (lt_of_block hrs)).trans hrs
   have hEm4 := hEm.below hb4
   have hxs4 := (hb4.block _ (lt_of_block hxs)).trans hxs
   have hltA := lt_of_block hrs
   have hltM := hEm.lt
   have hltX := lt_of_block hxs
   clear hw4 hrs hEm hxs hbs c0' c1' hb4
   clear hcc
   generalize hb6 : wr.heap.size = b6 at *
   rename World => wo
   go_loopw [34] (fun i ws => ∃ (k : Nat) (S : List Bool), k <= vals.length /\ i = .int .i64 k /\ S.length = 60 /\ setRow ws (b6 + 1) S /\ wo.grownBy ws (some (b6 + 1)) /\ Hid ((Code.ValsOk S (vals.drop k) -> Code.ValsOk Rj vals) /\ Code.addAll S (vals.drop k) = Code.addAll Rj vals)) (fun i _ => vals.length - (intOf i).toNat)
   case atStart => exact ⟨0, Rj, by omega, rfl, hR60, hM4, grown_refl _ _, hide ⟨id, rfl⟩⟩
   case round =>
    obtain ⟨k, S, hk, rfl, hS, hMk, hgk, hsp⟩ := hrel
    clear hM4
    have hbk := below_of_grown hbw4 hgk (by omega)
    have hMl := lt_of_block hMk
    by_cases hkt : k < vals.length
    ·obtain ⟨g2, th, rfl, hg2, d0, d1, hth⟩ := HV.out k hkt
     obtain ⟨hx60, hul2, hu60⟩ := HNUM.out vals[k] (List.getElem_mem hkt)
     have hvo := hsp.out.1
     have hva := hsp.out.2
     rw [List.drop_eq_getElem_cons hkt] at hvo hva
     have HN : Hid (Code.hasAll S (Code.useT vals[k].thing) = true -> (Code.ValsOk (S.set vals[k].num true) (vals.drop (k + 1)) -> Code.ValsOk Rj vals) /\ Code.addAll (S.set vals[k].num true) (vals.drop (k + 1)) = Code.addAll Rj vals) := hide fun e => ⟨fun h => hvo ⟨e, h⟩, hva⟩
     have d0' : wr.cell? ⟨g2, k * 2, none⟩ = some (.int .i64 (vals[k].num : Nat)) := by rw [(bcell hbk).1 g2 _ hg2]; exact d0
     have d1' : wr.cell? ⟨g2, k * 2 + 1, none⟩ = some th := by rw [(bcell hbk).1 g2 _ hg2]; exact d1
     have HTH := hide hth
     generalize vals[k].thing = y at *
     generalize vals[k].num = x at *
     obtain ⟨T', tv, rfl⟩ := hth.shape
     clear d0 d1 hth hsp hvo hva
     have hx' : (x : Int) < 60 := by omega
     obtain ⟨bx, hcx⟩ : ∃ bx, wr.cell? ⟨b6 + 1, x, none⟩ = some bx := ⟨_, hMk.cell x (by omega)⟩
     go_wp2_with fail
     generalize hw9 : wr.alloc _ = w9
     have hb9 : Below wr.heap.size wr w9 := by rw [<- hw9]; exact below_al (Below.refl _ _) _
     have hcp9 : w9.heap[wr.heap.size]? = some (.cells #[.int .i64 (x : Nat), .iface T' tv] 169) := by rw [<- hw9]; exact heap_alloc_new wr _
     have hM9 : setRow w9 (b6 + 1) S := (hb9.block _ hMl).trans hMk
     have hbw9 : Below w.heap.size w w9 := hbk.trans (hb9.mono hbk.size)
     generalize hb8 : wr.heap.size = b8 at *
     clear hw9 d0' d1' hcx
     have e1 : ∀ w', Below w9.heap.size w9 w' -> w'.cell? ⟨b8, 1, none⟩ = some (.iface T' tv) := fun w' h => blk_cell ((h.block _ (lt_of_block hcp9)).trans hcp9) 1 _ rfl
     have HRG9 : Hid (∀ w', Below w9.heap.size w9 w' -> w'.rangeAt (b6 + 1) 0 (setL S)) := hide fun w' h => setRow.range (w := w') ((h.block _ (lt_of_block hM9)).trans hM9)
     have HUP : Hid (∀ w', Below w9.heap.size w9 w' -> Calls Tryz.prog 166 #[.iface T' tv] w' fun e w'' => ∃ r, e = .returned r /\ w''.ownsRow base 3 1 r (Code.useT y).length (nats (Code.useT y)) /\ Below w9.heap.size w9 w'') := hide fun w' h => by
      have hbw' : Below w.heap.size w w' := hbw9.trans (h.mono hbw9.size)
      refine (usesInPlace_any y (.iface T' tv) base w' (HTH.out.mono (fun _ _ _ h => own_below h hbw'))).mono ?_
      rintro e w'' ⟨r, h1, h2, h3⟩
      exact ⟨r, h1, h2, h.trans (h3.mono h.size)⟩
     have HHA : Hid (∀ w' r, Below w9.heap.size w9 w' -> w'.ownsRow base 3 1 r (Code.useT y).length (nats (Code.useT y)) -> Calls Tryz.prog 165 #[.agg (setL S).toArray, r] w' fun e w'' => e = .returned (.bool (Code.hasAll S (Code.useT y))) /\ Below w9.heap.size w9 w'') := hide fun w' r h hr => by
      refine (hasAll_any S hS (Code.useT y) hu60 hul2 r base w' hr).mono ?_
      rintro e w'' ⟨h1, h2⟩
      exact ⟨h1, h.trans (h2.mono h.size)⟩
     have hu := Tryz.underlying281
     have hi60 := setSize S hS
     have hl60 : (setL S).length = 60 := by rw [setL_length]; exact hS
     generalize hsx : Code.hasAll S (Code.useT y) = sx at *
     go_region_held3 (fun w' => Below w9.heap.size w9 w' /\ w'.rangeAt (b6 + 1) 0 (setL S)) (first | assumption | (go_split_ands; (try dsimp only); refine ⟨?_, HRG9.out _ ?_⟩ <;> (repeat' (first | assumption | exact Below.refl _ _ | apply Below.drew)))) (first | (go_at_call 166; refine (HUP.out _ ?_).mono ?_; (repeat' (first | assumption | exact Below.refl _ _ | apply Below.drew)); rintro e w10 ⟨r, rfl, hrow, hb10⟩) | (go_at_call 165; refine (HHA.out _ _ ?_ ?_).mono ?_; (exact hb10); (exact hrow); rintro e w11 ⟨rfl, hb11⟩))
     have hcp11 := (hb11.block _ (lt_of_block hcp9)).trans hcp9
     have hM11 : setRow w11 (b6 + 1) S := (hb11.block _ (lt_of_block hM9)).trans hM9
     have f0 := blk_cell hcp11 0 _ rfl
     obtain ⟨by11, hcx11⟩ : ∃ b, w11.cell? ⟨b6 + 1, x, none⟩ = some b := ⟨_, hM11.cell x (by omega)⟩
     have hfz11 := blk_froz hM11 x
     have hg11 : wo.grownBy w11 (some (b6 + 1)) := grown_trans hgk (grown_below (hb8 ▸ (hb9.trans (hb11.mono (hb8 ▸ hb9.size)))))
     have hb11w : Below w.heap.size w w11 := hbw9.trans (hb11.mono hbw9.size)
     have hxs11 := kept_block hxs4 hg11 (by omega)
     have hxa := blk_cell hxs11 0 _ rfl
     have hxb := blk_cell hxs11 1 _ rfl
     clear hcp9 hM9 e1 HRG9 HUP HHA hi60 hl60 hu hsx
     cases sx with
     | true =>
      go_wp2
      exact ⟨⟨k + 1, S.set x true, by omega, by go_num, by simp [hS], hM11.set x true, grown_trans hg11 (grown_set _ _ _ _), hide (HN.out rfl)⟩, by simp [intOf]; omega⟩
     | false =>
      clear HN
      go_wp2_with fail
      refine (fail_form args bks (some ⟨gb, 0, none⟩) c base w11 (HF.out.below hb11w) hn HLL.out j hlt k ⟨by omega, by omega⟩).mono ?_
      rintro e w20 ⟨⟨l, rfl⟩, hb20⟩
      go_wp2
      exact ⟨rfl, ⟨l, rfl⟩, hb11w.trans (hb20.mono hb11w.size)⟩
    ·have HSA : Hid (S = Code.addAll Rj vals) := by
      have h := hsp.out.2
      rw [List.drop_of_length_le (by omega)] at h
      exact h
     have HVOK : Hid (Code.ValsOk Rj vals) := hide (hsp.out.1 (by rw [List.drop_of_length_le (by omega)]; trivial))
     clear hsp
     have hcpk := kept_block hcp4 hgk (by omega)
     have hb6l := lt_of_block hcpk
     have e1 : ∀ w', Below wr.heap.size wr w' -> w'.cell? ⟨b6, 1, none⟩ = some (.iface T zv) := fun w' h => blk_cell ((h.block _ hb6l).trans hcpk) 1 _ rfl
     have HRG9 : Hid (∀ w', Below wr.heap.size wr w' -> w'.rangeAt (b6 + 1) 0 (setL S)) := hide fun w' h => setRow.range (w := w') ((h.block _ hMl).trans hMk)
     have HUP : Hid (∀ w', Below wr.heap.size wr w' -> Calls Tryz.prog 167 #[.iface T zv] w' fun e w'' => ∃ r, e = .returned r /\ w''.ownsRow 0 3 1 r ul.length (nats ul) /\ Below wr.heap.size wr w'') := hide fun w' h => by
      refine (HUL.out w').mono ?_
      rintro e w'' ⟨r, h1, h2, h3⟩
      exact ⟨r, h1, own_base h2 (Nat.zero_le _), h.trans (h3.mono h.size)⟩
     have HHA : Hid (∀ w' r, Below wr.heap.size wr w' -> w'.ownsRow 0 3 1 r ul.length (nats ul) -> Calls Tryz.prog 165 #[.agg (setL S).toArray, r] w' fun e w'' => e = .returned (.bool (Code.hasAll (Code.addAll Rj vals) ul)) /\ Below wr.heap.size wr w'') := hide fun w' r h hr => by
      refine (hasAll_any S hS ul HUL6.out hul r 0 w' hr).mono ?_
      rintro e w'' ⟨h1, h2⟩
      rw [HSA.out] at h1
      exact ⟨h1, h.trans (h2.mono h.size)⟩
     have hu := Tryz.underlying281
     have hi60 := setSize S hS
     have hl60 : (setL S).length = 60 := by rw [setL_length]; exact hS
     generalize hsx : Code.hasAll (Code.addAll Rj vals) ul = sx at *
     go_wp2_with fail
     go_region_held3 (fun w' => Below wr.heap.size wr w' /\ w'.rangeAt (b6 + 1) 0 (setL S)) (first | assumption | (go_split_ands; (try dsimp only); refine ⟨?_, HRG9.out _ ?_⟩ <;> (repeat' (first | assumption | exact Below.refl _ _ | apply Below.drew)))) (first | (go_at_call 167; refine (HUP.out _ ?_).mono ?_; (repeat' (first | assumption | exact Below.refl _ _ | apply Below.drew)); rintro e w10 ⟨r, rfl, hrow, hb10⟩) | (go_at_call 165; refine (HHA.out _ _ ?_ ?_).mono ?_; (exact hb10); (exact hrow); rintro e w11 ⟨rfl, hb11⟩))
     have f1 := e1 w11 hb11
     clear e1 HRG9 HUP HHA hi60 hl60 hu
     have hg11' : wo.grownBy w11 (some (b6 + 1)) := grown_trans hgk (grown_below hb11)
     have hb11w : Below w.heap.size w w11 := hbk.trans (hb11.mono hbk.size)
     have hxs11 := kept_block hxs4 hg11' (by omega)
     have hxa := blk_cell hxs11 0 _ rfl
     have hxb := blk_cell hxs11 1 _ rfl
     clear hg11'
     cases sx with
     | false =>
      clear HNJ2 hsx
      go_wp2_with fail
      refine (failLast_form args bks (some ⟨gb, 0, none⟩) c base w11 (HF.out.below hb11w) hn HLL.out j hlt).mono ?_
      rintro e w20 ⟨⟨l, rfl⟩, hb20⟩
      go_wp2
      exact ⟨rfl, ⟨l, rfl⟩, hb11w.trans (hb20.mono hb11w.size)⟩
     | true =>
     clear hxa hxb hxs11 hb11w hsx
     go_wp2_with fail
     refine (HTA.out w11).mono ?_
     rintro e w12 ⟨v12, rfl, hown12, hb12⟩
     have hbq : Below wr.heap.size wr w12 := hb11.trans (hb12.mono hb11.size)
     have hg12 : wo.grownBy w12 (some (b6 + 1)) := grown_trans hgk (grown_below hbq)
     have hM12 : setRow w12 (b6 + 1) S := (hbq.block _ hMl).trans hMk
     have hz11 := hb11.size
     have hzk := hgk.size
     clear f1 hb11 hb12 hbq hcpk hMk hgk hbk
     obtain ⟨p12, c12, rfl, _⟩ := nats_open hown12
     go_wp2_with fail
     rename World => wz
     have hbwz := below_of_grown hbw4 hg12 (by omega)
     have hxsz := kept_block hxs4 hg12 (by omega)
     have hEmz := hEm4.kept hg12 (by simp; omega)
     have hrsz := kept_block hrs4 hg12 (by omega)
     have hmbz := hEmz.lt
     go_loopw [66] (fun i ws => ∃ k : Nat, k <= tl.length /\ i = .int .i64 k /\ Below wz.heap.size wz ws /\ Hid (∀ k' (hk : k' < tl.length) (ht : tl[k'] < bks.length), k' < k -> Code.PhisMade bks[tl[k']].values ((Code.edges bks).places j k') (Code.addAll Rj vals))) (fun i _ => tl.length - (intOf i).toNat)
     case atStart => exact ⟨0, by omega, rfl, Below.refl _ _, hide fun k' h h' h'' => by omega⟩
     case round =>
      obtain ⟨k, hk, rfl, hbz, hsp⟩ := hrel
      have hbwr : Below w.heap.size w wr := hbwz.trans (hbz.mono hbwz.size)
      by_cases hkt : k < tl.length
      ·obtain ⟨p13, c13, hpe, hval13⟩ := nats_open (own_below hown12 hbz)
       simp only [Value.slice.injEq] at hpe
       obtain ⟨rfl, _, rfl⟩ := hpe
       obtain ⟨g13, rfl, ct⟩ := hval13 k hkt
       have htk := htb tl[k] (List.getElem_mem hkt)
       have HN : Hid (Code.PhisMade bks[tl[k]].values ((Code.edges bks).places j k) (Code.addAll Rj vals) -> ∀ k' (hk : k' < tl.length) (ht : tl[k'] < bks.length), k' < k + 1 -> Code.PhisMade bks[tl[k']].values ((Code.edges bks).places j k') (Code.addAll Rj vals)) := hide fun e k' h h' h'' => by
        by_cases hq : k' < k
        ·exact hsp.out k' h h' hq
        ·obtain rfl : k' = k := by omega
         exact e
       have HPK := hide (HPHJ.out k hkt htk)
       clear hsp
       have hlenT := (HL.out bks[tl[k]] (List.getElem_mem htk)).1
       have hx0 : ∀ w', Below wr.heap.size wr w' -> w'.cell? ⟨w.heap.size, 0, none⟩ = some (.int .i64 (args : Nat)) := fun w' h => blk_cell ((h.block _ (Nat.lt_of_lt_of_le (lt_of_block hxsz) hbz.size)).trans ((hbz.block _ (lt_of_block hxsz)).trans hxsz)) 0 _ rfl
       have hx1 : ∀ w', Below wr.heap.size wr w' -> w'.cell? ⟨w.heap.size, 1, none⟩ = some (.slice (some ⟨gb, 0, none⟩) bks.length c) := fun w' h => blk_cell ((h.block _ (Nat.lt_of_lt_of_le (lt_of_block hxsz) hbz.size)).trans ((hbz.block _ (lt_of_block hxsz)).trans hxsz)) 1 _ rfl
       have HRG9 : Hid (∀ w', Below wr.heap.size wr w' -> w'.rangeAt (b6 + 1) 0 (setL S)) := hide fun w' h => setRow.range (w := w') ((h.block _ (Nat.lt_of_lt_of_le (lt_of_block hM12) hbz.size)).trans ((hbz.block _ (lt_of_block hM12)).trans hM12))
       have hlook : ∀ w', Below wr.heap.size wr w' -> (Instr.lookup 251 (.map (some mb)) (.agg #[.int .i64 (j : Nat), .int .i64 (k : Nat)]) false).run Tryz.prog w' = .ok (.int .i64 ((Code.edges bks).places j k : Nat)) w' := fun w' h => ((hEmz.below hbz).below h).look j k (by omega) (by omega)
       by_cases hpm : Code.PhisMade bks[tl[k]].values ((Code.edges bks).places j k) (Code.addAll Rj vals)
       case neg =>
        have HCN : Hid (∀ w', Below wr.heap.size wr w' -> Calls Tryz.prog 168 #[.agg #[.int .i64 (args : Nat), .slice (some ⟨gb, 0, none⟩) bks.length c], .int .i64 (tl[k] : Nat), .int .i64 ((Code.edges bks).places j k : Nat), .agg (setL S).toArray] w' fun e w'' => FailsB w' e w'') := hide fun w' h =>
         phisMade_no args bks (some ⟨gb, 0, none⟩) c base w' (HF.out.below (hbwr.trans (h.mono hbwr.size))) tl[k] htk hn HLL.out _ S hS HPK.out (by rw [HSA.out]; exact hpm)
        have hu := Tryz.underlying281
        have hi60 := setSize S hS
        have hl60 : (setL S).length = 60 := by rw [setL_length]; exact hS
        generalize (Code.edges bks).places j k = pl at *
        generalize tl[k] = tk at *
        clear hval13 hpm HN HPK HNJ2
        go_wp2_with fail
        have hSS : Below wr.heap.size wr wr.drew /\ wr.drew.rangeAt (b6 + 1) 0 (setL S) := ⟨Below.drew (Below.refl _ _), HRG9.out _ (Below.drew (Below.refl _ _))⟩
        refine wp_region_held_drew (S := fun w' => Below wr.heap.size wr w' /\ w'.rangeAt (b6 + 1) 0 (setL S)) (by kernel_rfl) hSS (fun hHeld => ?_)
        refine wpAnyH_take (i := 0) (v := .agg #[.int .i64 (args : Nat), .slice (some ⟨gb, 0, none⟩) bks.length c]) rfl (by kernel_rfl) (by kernel_rfl) (by kernel_rfl) (fun _ _ _ h => h) (Or.inl ⟨by rfl, fun w' h => by have h1 := hx0 w' h.1; have h2 := hx1 w' h.1; go_simp⟩) hSS ?_
        try simp only [Act.put, zz]
        refine wpAnyH_take (i := 1) (v := .int .i64 (tk : Nat)) rfl (by kernel_rfl) (by kernel_rfl) (by kernel_rfl) (fun _ _ _ h => h) (Or.inl ⟨by rfl, fun w' h => by  go_simp⟩) hSS ?_
        try simp only [Act.put, zz]
        refine wpAnyH_take (i := 2) (v := .map (some mb)) rfl (by kernel_rfl) (by kernel_rfl) (by kernel_rfl) (fun _ _ _ h => h) (Or.inl ⟨by rfl, fun w' h => by  go_simp⟩) hSS ?_
        try simp only [Act.put, zz]
        refine wpAnyH_take (i := 3) (v := .int .i64 (j : Nat)) rfl (by kernel_rfl) (by kernel_rfl) (by kernel_rfl) (fun _ _ _ h => h) (Or.inl ⟨by rfl, fun w' h => by  go_simp⟩) hSS ?_
        try simp only [Act.put, zz]
        refine wpAnyH_take (i := 4) (v := .int .i64 (k : Nat)) rfl (by kernel_rfl) (by kernel_rfl) (by kernel_rfl) (fun _ _ _ h => h) (Or.inl ⟨by rfl, fun w' h => by  go_simp⟩) hSS ?_
        try simp only [Act.put, zz]
        refine wpAnyH_take (i := 5) (v := .agg #[.int .i64 (j : Nat), .int .i64 (k : Nat)]) rfl (by kernel_rfl) (by kernel_rfl) (by kernel_rfl) (fun _ _ _ h => h) (Or.inl ⟨by rfl, fun w' h => by  go_simp⟩) hSS ?_
        try simp only [Act.put, zz]
        refine wpAnyH_take (i := 6) (v := .int .i64 (pl : Nat)) rfl (by kernel_rfl) (by kernel_rfl) (by kernel_rfl) (fun _ _ _ h => h) (Or.inl ⟨by rfl, fun w' h => by have h1 := hlook w' h.1; go_simp⟩) hSS ?_
        try simp only [Act.put, zz]
        refine wpAnyH_take (i := 7) (v := .agg (setL S).toArray) rfl (by kernel_rfl) (by kernel_rfl) (by kernel_rfl) (fun _ _ _ h => h) (yieldsIf_load_mid (by rfl) 281 _ rfl (b6 + 1) 0 rfl (setL S) _ (fun w' h => h.2) hu rfl hi60) hSS ?_
        try simp only [Act.put, zz]
        refine wpAnyH_ready (rs := [8]) (by kernel_rfl) (by simp) ?_
        refine AllReadyH.cons rfl (fun K hK => ?_) AllReadyH.nil
        rw [if_pos (by rfl)]
        go_wp2_with fail
        refine (HCN.out wr.drew hSS.1).mono ?_
        rintro e w20 ⟨⟨l, rfl⟩, hb20⟩
        go_wp2
        exact ⟨rfl, ⟨l, rfl⟩, hbwr.trans ((undrewB hb20).mono hbwr.size)⟩
       have HPM := hide hpm
       rw [<- HSA.out] at HPM
       have HN' := hide (HN.out hpm)
       clear hpm HN HPK
       have HCP : Hid (∀ w', Below wr.heap.size wr w' -> Calls Tryz.prog 168 #[.agg #[.int .i64 (args : Nat), .slice (some ⟨gb, 0, none⟩) bks.length c], .int .i64 (tl[k] : Nat), .int .i64 ((Code.edges bks).places j k : Nat), .agg (setL S).toArray] w' fun e w'' => e = .returned (.tuple #[]) /\ Below wr.heap.size wr w'') := hide fun w' h => by
        refine (phisMade_ok args bks (some ⟨gb, 0, none⟩) c base w' (HF.out.below (hbwr.trans (h.mono hbwr.size))) tl[k] htk hlenT _ S hS HPM.out).mono ?_
        rintro e w'' ⟨h1, h2⟩
        exact ⟨h1, h.trans (h2.mono h.size)⟩
       have hu := Tryz.underlying281
       have hi60 := setSize S hS
       have hl60 : (setL S).length = 60 := by rw [setL_length]; exact hS
       generalize (Code.edges bks).places j k = pl at *
       generalize tl[k] = tk at *
       clear hval13
       go_wp2_with fail
       go_region_held3 (fun w' => Below wr.heap.size wr w' /\ w'.rangeAt (b6 + 1) 0 (setL S)) (first | assumption | (go_split_ands; (try dsimp only); refine ⟨?_, HRG9.out _ ?_⟩ <;> (repeat' (first | assumption | exact Below.refl _ _ | apply Below.drew)))) (first | (go_at_call 168; refine (HCP.out _ ?_).mono ?_; (repeat' (first | assumption | exact Below.refl _ _ | apply Below.drew)); rintro e w14 ⟨rfl, hb14⟩))
       go_wp2
       exact ⟨⟨k + 1, by omega, by go_num, hbz.trans (hb14.mono hbz.size), HN'⟩, by simp [intOf]; omega⟩
      ·have HNN := hide (HNJ2.out ⟨HVOK.out, trivial, fun k' hk' ht' => hsp.out k' hk' ht' (by omega)⟩)
       clear hsp HNJ2
       go_wp2
       refine ⟨⟨j + 1, by omega, by go_num, (hbz.block _ (lt_of_block hrsz)).trans hrsz, hEmz.below hbz, (hbz.block _ (lt_of_block hxsz)).trans hxsz, hbwr, HNN⟩, by simp [intOf]; omega⟩
  ·exact absurd (fun j' h h' => hspo.out j' h h' (by omega)) HAO.out
end Go.Proofs.YtedkjanogjglkaaGreatDoor
namespace Go.Proofs.YtedkjanogjglkaaGreatDoor.Code
def into (t : Nat) (L : List (Nat × Nat × Nat)) : Nat := L.countP fun e => e.2.2 == t
theorem into_app (t : Nat) (a b : List (Nat × Nat × Nat)) : into t (a ++ b) = into t a + into t b := List.countP_append
theorem into_cons (t : Nat) (e : Nat × Nat × Nat) (l : List (Nat × Nat × Nat)) : into t (e :: l) = into t l + if e.2.2 = t then 1 else 0 := by
 unfold into
 rw [List.countP_cons]
 by_cases h : e.2.2 = t <;> simp [h]
theorem fold_counts (t : Nat) : ∀ (L : List (Nat × Nat × Nat)) (E : Edges), t < E.counts.length -> (L.foldl Edges.add E).counts.getD t 0 = E.counts.getD t 0 + into t L
 | [], E, _ => rfl
 | e :: L, E, h => by
  rw [List.foldl_cons, fold_counts t L (E.add e) (by rw [add_length]; exact h), into_cons]
  unfold Edges.add
  simp only [List.getD_eq_getElem?_getD, List.getElem?_set]
  by_cases he : e.2.2 = t
  ·subst he
   simp only [if_true, h]
   simp; omega
  ·simp only [if_neg he]; simp
theorem fold_places (i k : Nat) : ∀ (L : List (Nat × Nat × Nat)) (E : Edges), (∀ e ∈ L, ¬ (e.1 = i /\ e.2.1 = k)) -> (L.foldl Edges.add E).places i k = E.places i k
 | [], E, _ => rfl
 | e :: L, E, h => by
  rw [List.foldl_cons, fold_places i k L (E.add e) (fun x hx => h x (List.mem_cons_of_mem _ hx))]
  have := h e List.mem_cons_self
  unfold Edges.add put2
  simp only
  rw [if_neg (fun hh => this ⟨hh.1.symm, hh.2.symm⟩)]
theorem edgesTo_split (i : Nat) : ∀ (l : List Nat) (k0 k : Nat) (h : k < l.length), ∃ A B, edgesTo i l k0 = A ++ (i, k0 + k, l[k]) :: B /\ (∀ e ∈ A, e.1 = i /\ e.2.1 < k0 + k) /\ ∀ e ∈ B, e.1 = i /\ k0 + k < e.2.1
 | [], _, _, h => by simp at h
 | t :: l, k0, 0, _ => by
  refine ⟨[], edgesTo i l (k0 + 1), rfl, by simp, ?_⟩
  have : ∀ (l : List Nat) (m : Nat), ∀ e ∈ edgesTo i l m, e.1 = i /\ m <= e.2.1 := by
   intro l
   induction l with
   | nil => intro m e he; simp [edgesTo] at he
   | cons a l ih =>
    intro m e he
    rcases List.mem_cons.1 he with rfl | he
    ·exact ⟨rfl, Nat.le_refl _⟩
    ·have := ih (m + 1) e he
     exact ⟨this.1, by omega⟩
  intro e he
  have := this l (k0 + 1) e he
  exact ⟨this.1, by omega⟩
 | t :: l, k0, k + 1, h => by
  obtain ⟨A, B, h1, h2, h3⟩ := edgesTo_split i l (k0 + 1) k (by simpa using h)
  have e : k0 + 1 + k = k0 + (k + 1) := by omega
  rw [e] at h1 h2 h3
  refine ⟨(i, k0, t) :: A, B, ?_, ?_, h3⟩
  ·show (i, k0, t) :: edgesTo i l (k0 + 1) = _
   rw [h1]; rfl
  ·intro x hx
   rcases List.mem_cons.1 hx with rfl | hx
   ·exact ⟨rfl, by show k0 < k0 + (k + 1); omega⟩
   ·exact h2 x hx
theorem edgesTo_from (i : Nat) : ∀ (l : List Nat) (m : Nat), ∀ e ∈ edgesTo i l m, e.1 = i
 | [], m, e, he => by simp [edgesTo] at he
 | a :: l, m, e, he => by
  rcases List.mem_cons.1 he with rfl | he
  ·rfl
  ·exact edgesTo_from i l (m + 1) e he
theorem edgesGo_from : ∀ (l : List Blk) (i : Nat), ∀ e ∈ edgesGo l i, i <= e.1
 | [], i, e, he => by simp [edgesGo] at he
 | b :: l, i, e, he => by
  rcases List.mem_append.1 he with he | he
  ·exact Nat.le_of_eq (edgesTo_from i _ 0 e he).symm
  ·have := edgesGo_from l (i + 1) e he
   omega
theorem edgesGo_split : ∀ (l : List Blk) (i0 j k : Nat) (h : j < l.length) (hk : k < (tg l[j].last).length), ∃ A B, edgesGo l i0 = A ++ (i0 + j, k, (tg l[j].last)[k]) :: B /\
  (∀ e ∈ A, e.1 < i0 + j \/ (e.1 = i0 + j /\ e.2.1 < k)) /\ ∀ e ∈ B, i0 + j < e.1 \/ (e.1 = i0 + j /\ k < e.2.1)
 | [], _, _, _, h, _ => by simp at h
 | b :: l, i0, 0, k, _, hk => by
  obtain ⟨A, B, h1, h2, h3⟩ := edgesTo_split i0 (tg b.last) 0 k hk
  refine ⟨A, B ++ edgesGo l (i0 + 1), ?_, ?_, ?_⟩
  ·show edgesTo i0 (tg b.last) 0 ++ edgesGo l (i0 + 1) = _
   rw [h1]; simp
  ·intro e he
   have := h2 e he
   exact Or.inr ⟨this.1, by omega⟩
  ·intro e he
   rcases List.mem_append.1 he with he | he
   ·have := h3 e he
    exact Or.inr ⟨this.1, by omega⟩
   ·have := edgesGo_from l (i0 + 1) e he
    exact Or.inl (by omega)
 | b :: l, i0, j + 1, k, h, hk => by
  obtain ⟨A, B, h1, h2, h3⟩ := edgesGo_split l (i0 + 1) j k (by simpa using h) hk
  have e : i0 + 1 + j = i0 + (j + 1) := by omega
  rw [e] at h1 h2 h3
  refine ⟨edgesTo i0 (tg b.last) 0 ++ A, B, ?_, ?_, h3⟩
  ·show edgesTo i0 (tg b.last) 0 ++ edgesGo l (i0 + 1) = _
   rw [h1]; simp
  ·intro x hx
   rcases List.mem_append.1 hx with hx | hx
   ·have := edgesTo_from i0 _ 0 x hx
    exact Or.inl (by omega)
   ·exact h2 x hx
theorem place_split (bks : List Blk) (j k : Nat) (h : j < bks.length) (hk : k < (tg bks[j].last).length) (ht : (tg bks[j].last)[k] < bks.length) :
  ∃ A B, edgesGo bks 0 = A ++ (j, k, (tg bks[j].last)[k]) :: B /\ (edges bks).places j k = into (tg bks[j].last)[k] A /\ (edges bks).counts.getD (tg bks[j].last)[k] 0 = into (tg bks[j].last)[k] A + 1 + into (tg bks[j].last)[k] B /\
   (∀ e ∈ A, ¬ (e.1 = j /\ e.2.1 = k)) /\ (∀ e ∈ B, ¬ (e.1 = j /\ e.2.1 = k)) := by
 obtain ⟨A, B, h1, h2, h3⟩ := edgesGo_split bks 0 j k h hk
 simp only [Nat.zero_add] at h1 h2 h3
 have hA : ∀ e ∈ A, ¬ (e.1 = j /\ e.2.1 = k) := fun e he hh => by
  have := h2 e he
  omega
 have hB : ∀ e ∈ B, ¬ (e.1 = j /\ e.2.1 = k) := fun e he hh => by
  have := h3 e he
  omega
 refine ⟨A, B, h1, ?_, ?_, hA, hB⟩
 ·unfold edges
  rw [h1, List.foldl_append, List.foldl_cons, fold_places j k B _ hB]
  have hl : (List.foldl Edges.add ⟨List.replicate bks.length 0, fun _ _ => 0⟩ A).counts.length = bks.length := by
   have : ∀ (l : List (Nat × Nat × Nat)) (E : Edges), (l.foldl Edges.add E).counts.length = E.counts.length := by
    intro l
    induction l with
    | nil => intro E; rfl
    | cons e l ih => intro E; rw [List.foldl_cons, ih, add_length]
   rw [this]; simp
  show put2 _ j k _ j k = _
  unfold put2
  rw [if_pos ⟨rfl, rfl⟩]
  show (List.foldl Edges.add _ A).counts.getD _ 0 = _
  rw [fold_counts _ A _ (by simpa using ht)]
  simp [List.getD_eq_getElem?_getD, ht]
 ·unfold edges
  rw [fold_counts _ _ _ (by simpa using ht), h1, into_app, into_cons, if_pos rfl]
  simp [List.getD_eq_getElem?_getD, ht]
  omega
theorem place_lt (bks : List Blk) (j k : Nat) (h : j < bks.length) (hk : k < (tg bks[j].last).length) (ht : (tg bks[j].last)[k] < bks.length) :
  (edges bks).places j k < (edges bks).counts.getD (tg bks[j].last)[k] 0 := by
 obtain ⟨A, B, _, h2, h3, _⟩ := place_split bks j k h hk ht
 omega
end Go.Proofs.YtedkjanogjglkaaGreatDoor.Code
namespace Go.Proofs.YtedkjanogjglkaaGreatDoor
open Go.RowKit
namespace Code
structure Wf (bks : List Blk) : Prop where
 most : bks.length <= 8
 some : 0 < bks.length
 small : Small bks
 phis : ∀ b ∈ bks, ∀ v ∈ b.values, ∀ of, v.thing = .phi of -> ∀ x ∈ of, x < 60
end Code
theorem requireRight_no (args : Nat) (bks : List Code.Blk) (p : Option Addr) (c : Nat) (base : Nat) (w : World) (hf : RepBlks w base (.slice p bks.length c) bks) (hw : Code.Wf bks) (hr : ¬ Code.Right bks) :
  Calls Tryz.prog 75 #[.agg #[.int .i64 (args : Nat), .slice p bks.length c]] w fun e w' => FailsB w e w' := by
 have HF := hide hf
 have HW := hide hw
 have HR := hide hr
 clear hf hr hw
 go_enter Tryz.func75, Tryz.ntmps75
 go_wp2_with fail
 generalize hw0 : w.alloc _ = w0
 have hx0 : w0.heap[w.heap.size]? = some (.cells #[.int .i64 (args : Nat), .slice p bks.length c] 78) := by rw [<- hw0]; exact heap_alloc_new w _
 have hb0 : Below w.heap.size w w0 := by rw [<- hw0]; exact below_al (Below.refl _ _) _
 clear hw0
 by_cases h1 : Code.Once noNumber bks
 case neg =>
  have H1 := hide h1
  refine (madeOnce_no args bks p c base w0 (HF.out.below hb0) HW.out.most (fun b hb => ⟨(HW.out.small b hb).1, fun v hv => ((HW.out.small b hb).2.1 v hv).1⟩) H1.out).mono ?_
  rintro e w1 ⟨⟨l, rfl⟩, hb1⟩
  clear h1
  go_wp2
  exact ⟨rfl, ⟨l, rfl⟩, hb0.trans (hb1.mono hb0.size)⟩
 have H1 := hide h1
 clear h1
 refine (madeOnce_ok args bks p c base w0 (HF.out.below hb0) HW.out.most (fun b hb => ⟨(HW.out.small b hb).1, fun v hv => ((HW.out.small b hb).2.1 v hv).1⟩) H1.out).mono ?_
 rintro e w1 ⟨rfl, hb1⟩
 have hx1 := (hb1.block _ (lt_of_block hx0)).trans hx0
 have hbw1 : Below w.heap.size w w1 := hb0.trans (hb1.mono hb0.size)
 have c0 := blk_cell hx1 0 _ rfl
 have c1 := blk_cell hx1 1 _ rfl
 clear hx0 hb0 hb1
 go_wp2_with fail
 by_cases h2 : ∀ b ∈ bks, ∀ t ∈ Code.tg b.last, 1 <= t /\ t < bks.length
 case neg =>
  have H2 := hide h2
  clear h2
  refine (targets_no args bks p c base w1 (HF.out.below hbw1) HW.out.most (fun b hb => (HW.out.small b hb).1) H2.out).mono ?_
  rintro e w2 ⟨⟨l, rfl⟩, hb2⟩
  go_wp2
  exact ⟨rfl, ⟨l, rfl⟩, hbw1.trans (hb2.mono hbw1.size)⟩
 have H2 := hide h2
 clear h2
 refine (targets_ok args bks p c base w1 (HF.out.below hbw1) HW.out.most H2.out).mono ?_
 rintro e w2 ⟨rfl, hb2⟩
 have hx2 := (hb2.block _ (lt_of_block hx1)).trans hx1
 have hbw2 : Below w.heap.size w w2 := hbw1.trans (hb2.mono hbw1.size)
 clear c0 c1 hx1 hbw1 hb2
 have c0 := blk_cell hx2 0 _ rfl
 have c1 := blk_cell hx2 1 _ rfl
 go_wp2_with fail
 by_cases h3 : Code.reachF 9 (Code.tgs bks) (List.replicate bks.length false) 0 = List.replicate bks.length true
 case neg =>
  have H3 := hide h3
  clear h3
  refine (reached_no args bks p c base w2 (HF.out.below hbw2) HW.out.most HW.out.some (fun b hb => (HW.out.small b hb).1) (fun b hb t ht => (H2.out b hb t ht).2) H3.out).mono ?_
  rintro e w3 ⟨⟨l, rfl⟩, hb3⟩
  go_wp2
  exact ⟨rfl, ⟨l, rfl⟩, hbw2.trans (hb3.mono hbw2.size)⟩
 have H3 := hide h3
 clear h3
 refine (reached_ok args bks p c base w2 (HF.out.below hbw2) HW.out.most HW.out.some (fun b hb t ht => (H2.out b hb t ht).2) H3.out).mono ?_
 rintro e w3 ⟨rfl, hb3⟩
 have hx3 := (hb3.block _ (lt_of_block hx2)).trans hx2
 have hbw3 : Below w.heap.size w w3 := hbw2.trans (hb3.mono hbw2.size)
 clear c0 c1 hx2 hbw2 hb3
 have c0 := blk_cell hx3 0 _ rfl
 have c1 := blk_cell hx3 1 _ rfl
 go_wp2_with fail
 by_cases h4 : Code.PhisOk bks
 case neg =>
  have H4 := hide h4
  clear h4
  refine (phis_no args bks p c base w3 (HF.out.below hbw3) HW.out.most (fun b hb => (HW.out.small b hb).1) (fun b hb t ht => (H2.out b hb t ht).2) H4.out).mono ?_
  rintro e w4 ⟨⟨l, rfl⟩, hb4⟩
  go_wp2
  exact ⟨rfl, ⟨l, rfl⟩, hbw3.trans (hb4.mono hbw3.size)⟩
 have H4 := hide h4
 clear h4
 refine (phis_ok args bks p c base w3 (HF.out.below hbw3) HW.out.most (fun b hb => (HW.out.small b hb).1) (fun b hb t ht => (H2.out b hb t ht).2) H4.out).mono ?_
 rintro e w4 ⟨rfl, hb4⟩
 have hx4 := (hb4.block _ (lt_of_block hx3)).trans hx3
 have hbw4 : Below w.heap.size w w4 := hbw3.trans (hb4.mono hbw3.size)
 clear c0 c1 hx3 hbw3 hb4
 have c0 := blk_cell hx4 0 _ rfl
 have c1 := blk_cell hx4 1 _ rfl
 have H5 : Hid (¬ ∀ A, A.length = bks.length -> All60 A -> Code.Iter bks (Code.startTo bks.length bks.length) A -> Code.AheadOk bks A) := hide fun h => HR.out ⟨HW.out.most, HW.out.some, HW.out.small, H1.out, H2.out, H3.out, H4.out, h⟩
 have H6 : Hid (∀ j (h : j < bks.length) k (hk : k < (Code.tg bks[j].last).length) (ht : (Code.tg bks[j].last)[k] < bks.length), ∀ v ∈ bks[(Code.tg bks[j].last)[k]].values, ∀ of, v.thing = .phi of -> ∃ h : (Code.edges bks).places j k < of.length, of[(Code.edges bks).places j k] < 60) := hide fun j h k hk ht v hv of e => by
  have h1 := Code.place_lt bks j k h hk ht
  have h2 := (H4.out _ ht v hv of e).2
  have h3 : (Code.edges bks).places j k < of.length := by omega
  exact ⟨h3, HW.out.phis _ (List.getElem_mem ht) v hv of e _ (List.getElem_mem h3)⟩
 go_wp2_with fail
 refine (madeAhead_no args bks p c base w4 (HF.out.below hbw4) HW.out.most HW.out.some HW.out.small (fun b hb t ht => (H2.out b hb t ht).2) H6.out H5.out).mono ?_
 rintro e w5 ⟨⟨l, rfl⟩, hb5⟩
 go_wp2
 exact ⟨rfl, ⟨l, rfl⟩, hbw4.trans (hb5.mono hbw4.size)⟩
def FailsW (w : World) (why : Int) (e : Ending) (w' : World) : Prop :=
 (∃ l : Int, e = .panicked [{ v := .iface 61 (.agg #[.int .i64 why, .int .i64 l]), recovered := false }]) /\ Below w.heap.size w w'
theorem read_form (s : List UInt8) (f : Code.Fn) (w : World) (hs : s.length <= 1500) (ht : Tab w) (hf : Code.FnIs s f) (hw : Code.Wf f.blocks) (hr : ¬ Code.Right f.blocks) :
  Calls Tryz.prog 37 #[.string (bs s)] w fun e w' => FailsW w 2 e w' := by
 have e1 := bs_size s
 have hs' : ¬ (1500 : Int) < (s.length : Int) := by omega
 have HF := hide hf
 have HR := hide hr
 have HT := hide ht
 have HW := hide hw
 have hp := ht.pos
 clear hf hr ht hw
 go_enter Tryz.func37, Tryz.ntmps37
 go_wp2_with fail
 generalize hw0 : (w.alloc _).alloc _ = w0
 have hx0 : w0.heap[w.heap.size]? = some (.cells #[.int .i64 0, .slice none 0 0] 78) := by rw [<- hw0]; exact stay_alloc (heap_alloc_new w _)
 have hr0 : RdF w0 (w.heap.size + 1) s 1 0 := by
  have h := heap_alloc_new (w.alloc (.cells #[.int .i64 0, .slice none 0 0] 78)) (.cells #[.string (bs s), .int .i64 1, .int .i64 1, .int .i64 0] 142)
  rw [alloc_size] at h
  rw [<- hw0]; exact h
 have hb0 : Below w.heap.size w w0 := by rw [<- hw0]; exact below_al (below_al (Below.refl _ _) _) _
 clear hw0
 refine (function_ok (w.heap.size + 1) s f 1 0 w0 hr0 (by omega) ⟨by omega, by omega⟩ (HT.out.below hb0) (by omega) HF.out).mono ?_
 rintro e w1 ⟨p, c, rfl, hrep1, hg1⟩
 have hbw1 : Below w.heap.size w w1 := below_of_grown hb0 hg1 (by omega)
 have HREP : Hid (RepBlks w1 w.heap.size (.slice p f.blocks.length c) f.blocks) := hide (hrep1.mono (fun _ _ _ h => own_base h hb0.size) (fun _ _ _ h => own_base h hb0.size) (fun _ _ _ h => own_base h hb0.size))
 clear hrep1 hg1 hb0 hr0 hx0
 go_wp2_with fail
 generalize hw2 : w1.alloc _ = w2
 have hb2 : Below w1.heap.size w1 w2 := by rw [<- hw2]; exact below_al (Below.refl _ _) _
 clear hw2
 refine (requireRight_no f.args f.blocks p c w.heap.size w2 (HREP.out.below hb2) HW.out HR.out).mono ?_
 rintro e w3 ⟨⟨l, rfl⟩, hb3⟩
 have hb13 : Below w1.heap.size w1 w3 := hb2.trans (hb3.mono hb2.size)
 have hbw3 : Below w.heap.size w w3 := hbw1.trans (hb13.mono hbw1.size)
 clear hb2 hb3 hb13 hbw1 HREP
 go_wp2
 exact ⟨rfl, ⟨l, rfl⟩, hbw3⟩
theorem read_none (s : List UInt8) (w : World) (hs : s.length <= 1500) (ht : Tab w) (hf : ∀ f, ¬ Code.FnIs s f) :
  Calls Tryz.prog 37 #[.string (bs s)] w fun e w' => FailsW w 1 e w' := by
 have e1 := bs_size s
 have hs' : ¬ (1500 : Int) < (s.length : Int) := by omega
 have HF := hide hf
 have HT := hide ht
 have hp := ht.pos
 clear hf ht
 go_enter Tryz.func37, Tryz.ntmps37
 go_wp2_with fail
 generalize hw0 : (w.alloc _).alloc _ = w0
 have hr0 : RdF w0 (w.heap.size + 1) s 1 0 := by
  have h := heap_alloc_new (w.alloc (.cells #[.int .i64 0, .slice none 0 0] 78)) (.cells #[.string (bs s), .int .i64 1, .int .i64 1, .int .i64 0] 142)
  rw [alloc_size] at h
  rw [<- hw0]; exact h
 have hb0 : Below w.heap.size w w0 := by rw [<- hw0]; exact below_al (below_al (Below.refl _ _) _) _
 clear hw0
 refine (function_no (w.heap.size + 1) s 1 0 w0 hr0 (by omega) ⟨by omega, by omega⟩ (HT.out.below hb0) (by omega) HF.out).mono ?_
 rintro e w1 ⟨⟨l, rfl⟩, hg1⟩
 have hbw1 : Below w.heap.size w w1 := below_of_grown hb0 hg1 (by omega)
 go_wp2
 exact ⟨rfl, ⟨l, rfl⟩, hbw1⟩
theorem read_long (s : ByteArray) (w : World) (hs : 1500 < s.size) :
  Calls Tryz.prog 37 #[.string s] w fun e w' => FailsW w 1 e w' := by
 have hs' : (1500 : Int) < (s.size : Int) := by omega
 go_enter Tryz.func37, Tryz.ntmps37
 go_wp2
 exact ⟨rfl, ⟨0, rfl⟩, below_al (Below.refl _ _) _⟩
end Go.Proofs.YtedkjanogjglkaaGreatDoor
namespace Go.Proofs.YtedkjanogjglkaaGreatDoor.Code
open Go.Proofs.YtedkjanogjglkaaGreatDoor.Ref (dec ch digits)
theorem ch_toNat (k : Nat) (h : k < 10) : (ch k).toNat = 48 + k := by
 match k, h with
 | 0, _ | 1, _ | 2, _ | 3, _ | 4, _ | 5, _ | 6, _ | 7, _ | 8, _ | 9, _ => rfl
theorem ch_in (k : Nat) (h : k < 10) : isIn 48 57 (ch k) = true := by
 match k, h with
 | 0, _ | 1, _ | 2, _ | 3, _ | 4, _ | 5, _ | 6, _ | 7, _ | 8, _ | 9, _ => rfl
theorem dec_in (n : Nat) : ∀ c ∈ dec n, isIn 48 57 c = true := by
 induction n using Nat.strongRecOn with
 | _ n ih =>
  intro c hc
  by_cases h : 10 <= n
  ·rw [Ref.dec_big h] at hc
   rcases List.mem_append.1 hc with hc | hc
   ·exact ih (n / 10) (by omega) c hc
   ·rw [List.mem_singleton.1 hc]; exact ch_in _ (by omega)
  ·rw [Ref.dec_small (by omega)] at hc
   rw [List.mem_singleton.1 hc]; exact ch_in _ (by omega)
theorem dec_fold (n : Nat) : numFold 0 (dec n) = n := by
 induction n using Nat.strongRecOn with
 | _ n ih =>
  by_cases h : 10 <= n
  ·rw [Ref.dec_big h, numFold_snoc, ih (n / 10) (by omega), ch_toNat _ (by omega)]; omega
  ·rw [Ref.dec_small (by omega)]
   show 10 * 0 + ((ch (n % 10)).toNat - 48) = n
   rw [ch_toNat _ (by omega)]; omega
theorem dec_len (n k : Nat) (hk : 0 < k) (h : n < 10 ^ k) : (dec n).length <= k := by
 induction n using Nat.strongRecOn generalizing k with
 | _ n ih =>
  by_cases h10 : 10 <= n
  ·cases k with
   | zero => omega
   | succ k =>
    have hk2 : 0 < k := by
     cases k with
     | zero => omega
     | succ k => omega
    rw [Nat.pow_succ] at h
    have := ih (n / 10) (by omega) k hk2 (by omega)
    rw [Ref.dec_big h10, List.length_append]
    simpa using this
  ·rw [Ref.dec_small (by omega)]; exact hk
theorem dec_pos (n : Nat) : dec n ≠ [] := by
 by_cases h : 10 <= n
 ·rw [Ref.dec_big h]; simp
 ·rw [Ref.dec_small (by omega)]; simp
theorem dec_head (n : Nat) (h : 0 < n) : ∃ c r, dec n = c :: r /\ 49 <= c.toNat := by
 induction n using Nat.strongRecOn with
 | _ n ih =>
  by_cases h10 : 10 <= n
  ·obtain ⟨c, r, e, hc⟩ := ih (n / 10) (by omega) (by omega)
   exact ⟨c, r ++ [ch (n % 10)], by rw [Ref.dec_big h10, e]; rfl, hc⟩
  ·exact ⟨ch (n % 10), [], Ref.dec_small (by omega), by rw [ch_toNat _ (by omega)]; omega⟩
theorem dec_good (n : Nat) (h : n < 10 ^ 10) : ¬ badDigits (dec n) := by
 rintro (hb | hb | ⟨hb, hb'⟩)
 ·exact dec_pos n hb
 ·have := dec_len n 10 (by omega) h
  omega
 ·by_cases h0 : 0 < n
  ·obtain ⟨c, r, e, hc⟩ := dec_head n h0
   rw [e] at hb
   simp only [List.head?_cons, Option.some.injEq] at hb
   subst hb
   revert hc; decide
  ·obtain rfl : n = 0 := by omega
   exact hb' rfl
def Stop (r : List UInt8) : Prop := r.takeWhile (isIn 48 57) = []
theorem stop_cons {c : UInt8} {r : List UInt8} (h : isIn 48 57 c = false) : Stop (c :: r) := by
 unfold Stop; rw [List.takeWhile_cons_of_neg (by rw [h]; simp)]
theorem dropWhile_of_stop {r : List UInt8} (h : Stop r) : r.dropWhile (isIn 48 57) = r := by
 have := run_rest 48 57 r
 unfold run rest at this
 rw [h] at this
 exact this
theorem number_dec (n : Nat) (r : List UInt8) (h : n < 10 ^ 10) (hr : Stop r) : number (dec n ++ r) = some (n, r) := by
 have e1 : run 48 57 (dec n ++ r) = dec n := by
  unfold run
  rw [List.takeWhile_append_of_pos (dec_in n), hr, List.append_nil]
 have e2 : rest 48 57 (dec n ++ r) = r := by
  unfold rest
  rw [List.dropWhile_append_of_pos (dec_in n), dropWhile_of_stop hr]
 unfold number
 rw [e1, e2, if_neg (dec_good n h), dec_fold]
theorem value_dec (n : Nat) (r : List UInt8) (h : n < 60) (hr : Stop r) : value (118 :: (dec n ++ r)) = some (n, r) := by
 have e : cut [118] (118 :: (dec n ++ r)) = some (dec n ++ r) := cut_app [118] _
 unfold value
 rw [e, Option.bind_some]
 unfold below
 rw [number_dec n r (by omega) hr, Option.bind_some, if_pos (by show (n : Int) < 60; omega)]
theorem cut_not {c d : UInt8} {r : List UInt8} (h : c ≠ d) : cut [d] (c :: r) = none := by
 apply cut_none_of
 simp only [List.length_cons, List.length_nil, List.take_succ_cons, List.take_zero]
 intro hh
 exact h (List.cons.inj hh).1
theorem signed_digits (n : Int) (r : List UInt8) (h : -2147483648 <= n) (h' : n < 2147483648) (hr : Stop r) : signed (digits n ++ r) = some (n, r) := by
 unfold digits
 by_cases hn : n < 0
 ·rw [if_pos hn]
  have e : cut [45] (45 :: dec (-n).toNat ++ r) = some (dec (-n).toNat ++ r) := cut_app [45] _
  unfold signed
  rw [e]
  show (number _).bind _ = _
  rw [number_dec _ r (by omega) hr, Option.bind_some]
  unfold signedOf
  rw [if_neg (by rintro ⟨_, h0⟩; simp only at h0; omega)]
  simp only [if_true]
  have e2 : -(((-n).toNat : Nat) : Int) = n := by omega
  rw [e2, if_neg (by omega)]
 ·rw [if_neg hn]
  have e : cut [45] (dec n.toNat ++ r) = none := by
   cases hd : dec n.toNat with
   | nil => exact absurd hd (dec_pos _)
   | cons c t =>
    have hc := dec_in n.toNat c (by rw [hd]; exact List.mem_cons_self)
    refine cut_not (r := t ++ r) ?_
    rintro rfl
    revert hc; decide
  unfold signed
  rw [e]
  show (number _).bind _ = _
  rw [number_dec _ r (by omega) hr, Option.bind_some]
  unfold signedOf
  rw [if_neg (by rintro ⟨h0, _⟩; cases h0)]
  have e2 : ((n.toNat : Nat) : Int) = n := by omega
  simp only [Bool.false_eq_true, if_false]
  rw [e2, if_neg (by omega)]
def nameOf (k : Nat) : List UInt8 := (ops.getD k ([], 0, 0)).1
def ofText : List Nat -> List UInt8
 | [] => []
 | x :: l => 32 :: 118 :: (dec x ++ ofText l)
def textT : Thing -> List UInt8
 | .phi _ => []
 | .arg n => [97, 114, 103, 32] ++ dec n
 | .const c => [99, 111, 110, 115, 116, 32] ++ digits c
 | .apply k of => nameOf k ++ ofText of
def GoodT (args : Nat) : Thing -> Prop
 | .phi _ => False
 | .arg n => n < args
 | .const c => -2147483648 <= c /\ c < 2147483648
 | .apply k of => k < 13 /\ of.length = opOf k /\ ∀ x ∈ of, x < 60
theorem stop32 (r : List UInt8) : Stop (32 :: r) := stop_cons rfl
theorem stop10 (r : List UInt8) : Stop (10 :: r) := stop_cons rfl
theorem ofText_stop (of : List Nat) (r : List UInt8) : Stop (ofText of ++ 10 :: r) := by
 cases of with
 | nil => exact stop10 r
 | cons x l => exact stop32 _
theorem ofN_text : ∀ (of : List Nat) (r : List UInt8), (∀ x ∈ of, x < 60) -> ofN of.length (ofText of ++ 10 :: r) = some (of, 10 :: r)
 | [], r, _ => rfl
 | x :: l, r, h => by
  have e : cut [32] (32 :: (118 :: (dec x ++ (ofText l ++ 10 :: r)))) = some (118 :: (dec x ++ (ofText l ++ 10 :: r))) := cut_app [32] _
  have ih := ofN_text l r (fun y hy => h y (List.mem_cons_of_mem _ hy))
  show (cut [32] (ofText (x :: l) ++ 10 :: r)).bind _ = _
  have e0 : ofText (x :: l) ++ 10 :: r = 32 :: (118 :: (dec x ++ (ofText l ++ 10 :: r))) := by simp [ofText]
  rw [e0, e, Option.bind_some, value_dec x _ (h x List.mem_cons_self) (ofText_stop l r), Option.bind_some, ih]
  rfl
theorem apply_text (k : Nat) (hk : k < 13) (of : List Nat) (h : of.length = opOf k) (ho : ∀ x ∈ of, x < 60) (args : Nat) (r : List UInt8) :
  ThingOf args (nameOf k ++ (ofText of ++ 10 :: r)) (some (.apply k of, 10 :: r)) := by
 have hof := ofN_text of r ho
 rw [h] at hof
 have hne : ∃ t, ofText of ++ 10 :: r = 32 :: t := by
  cases of with
  | nil =>
   exfalso
   revert h
   match k, hk with
   | 0, _ | 1, _ | 2, _ | 3, _ | 4, _ | 5, _ | 6, _ | 7, _ | 8, _ | 9, _ | 10, _ | 11, _ | 12, _ => decide
  | cons x l => exact ⟨_, rfl⟩
 obtain ⟨t, ht⟩ := hne
 rw [ht] at hof ⊢
 have hw : word (nameOf k ++ 32 :: t) = nameOf k /\ behind (nameOf k ++ 32 :: t) = 32 :: t /\ opNamed (nameOf k) = some k /\ nameOf k ≠ sPhi /\ nameOf k ≠ sArg /\ nameOf k ≠ sConst := by
  match k, hk with
  | 0, _ | 1, _ | 2, _ | 3, _ | 4, _ | 5, _ | 6, _ | 7, _ | 8, _ | 9, _ | 10, _ | 11, _ | 12, _ => exact ⟨rfl, rfl, rfl, by decide, by decide, by decide⟩
 obtain ⟨h1, h2, h3, h4, h5, h6⟩ := hw
 have hT := ThingOf.apply (args := args) (s := nameOf k ++ 32 :: t) (by rw [h1]; exact h4) (by rw [h1]; exact h5) (by rw [h1]; exact h6)
 rw [h1, h2] at hT
 unfold apply at hT
 rw [h3, Option.bind_some, hof] at hT
 exact hT
theorem thing_text (args : Nat) (t : Thing) (h : GoodT args t) (ha : args <= 60) (r : List UInt8) : ThingOf args (textT t ++ 10 :: r) (some (t, 10 :: r)) := by
 cases t with
 | phi of => exact absurd h id
 | arg n =>
  have hT := ThingOf.arg (args := args) (s := [97, 114, 103, 32] ++ (dec n ++ 10 :: r)) rfl
  have e1 : behind ([97, 114, 103, 32] ++ (dec n ++ 10 :: r)) = 32 :: (dec n ++ 10 :: r) := rfl
  have e2 : cut [32] (32 :: (dec n ++ 10 :: r)) = some (dec n ++ 10 :: r) := cut_app [32] _
  rw [e1, e2, Option.bind_some] at hT
  unfold below at hT
  have hn : n < args := h
  rw [number_dec n _ (by omega) (stop10 r), Option.bind_some, if_pos (by show (n : Int) < (args : Int); omega)] at hT
  show ThingOf args (([97, 114, 103, 32] ++ dec n) ++ 10 :: r) _
  rw [List.append_assoc]
  exact hT
 | const c =>
  have hT := ThingOf.const (args := args) (s := [99, 111, 110, 115, 116, 32] ++ (digits c ++ 10 :: r)) rfl
  have e1 : behind ([99, 111, 110, 115, 116, 32] ++ (digits c ++ 10 :: r)) = 32 :: (digits c ++ 10 :: r) := rfl
  have e2 : cut [32] (32 :: (digits c ++ 10 :: r)) = some (digits c ++ 10 :: r) := cut_app [32] _
  rw [e1, e2, Option.bind_some, signed_digits c _ h.1 h.2 (stop10 r)] at hT
  show ThingOf args (([99, 111, 110, 115, 116, 32] ++ digits c) ++ 10 :: r) _
  rw [List.append_assoc]
  exact hT
 | apply k of =>
  show ThingOf args ((nameOf k ++ ofText of) ++ 10 :: r) _
  rw [List.append_assoc]
  exact apply_text k h.1 of h.2.1 h.2.2 args r
end Go.Proofs.YtedkjanogjglkaaGreatDoor.Code
