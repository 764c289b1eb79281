/-
  Walk: code.Function.requireMadeAhead, where it holds.
-/
import Derived.Test.YtdffpkmabehfbaaDoorCPhisMade
namespace Go.Proofs.YtdffpkmabehfbaaDoor
open Go.RowKit

namespace Code
/-- Each value uses what is made; then it is made. -/
def ValsOk : List Bool → List Val → Prop
  | _, [] => True
  | R, v :: l => hasAll R (useT v.thing) = true ∧ ValsOk (R.set v.num true) l

/-- All that a block uses has been made, on every way; what the phis behind it take, at its end. -/
def AheadOk (bks : List Blk) (A : Sets) : Prop :=
  ∀ j (h : j < bks.length) (h' : j < A.length), ValsOk A[j] bks[j].values ∧ hasAll (addAll A[j] bks[j].values) (useL bks[j].last) = true ∧
    ∀ k (hk : k < (tg bks[j].last).length) (ht : (tg bks[j].last)[k] < bks.length), PhisMade bks[(tg bks[j].last)[k]].values ((edges bks).places j k) (addAll A[j] bks[j].values)

/-- v numbers, and how many there are. -/
def Small (bks : List Blk) : Prop := ∀ b ∈ bks, b.values.length ≤ 100000 ∧ (∀ v ∈ b.values, v.num < 60 ∧ (useT v.thing).length ≤ 100000 ∧ ∀ x ∈ useT v.thing, x < 60) ∧ (useL b.last).length ≤ 100000 ∧ ∀ x ∈ useL b.last, x < 60
end Code

theorem below_of_grown {w w4 ws : World} {b : Nat} (h : Below w.heap.size w w4) (hg : w4.grownBy ws (some b)) (hb : w.heap.size ≤ b) : Below w.heap.size w ws :=
  h.trans ⟨hg.os, hg.tape, hg.output, hg.size, fun k hk => hg.block k (Nat.lt_of_lt_of_le hk h.size) (fun e => by simp at e; omega)⟩

theorem newSet (w5 : World) (E : List Bool) (hE : E.length = 60) : setRow ((w5.alloc (.cells #[.bool false, .bool false, .bool false, .bool false, .bool false, .bool false, .bool false, .bool false, .bool false, .bool false, .bool false, .bool false, .bool false, .bool false, .bool false, .bool false, .bool false, .bool false, .bool false, .bool false, .bool false, .bool false, .bool false, .bool false, .bool false, .bool false, .bool false, .bool false, .bool false, .bool false, .bool false, .bool false, .bool false, .bool false, .bool false, .bool false, .bool false, .bool false, .bool false, .bool false, .bool false, .bool false, .bool false, .bool false, .bool false, .bool false, .bool false, .bool false, .bool false, .bool false, .bool false, .bool false, .bool false, .bool false, .bool false, .bool false, .bool false, .bool false, .bool false, .bool false] 108)).setCells w5.heap.size 0 (setL E).toArray.toList) w5.heap.size E := by
  have hnew : setRow (w5.alloc (.cells (setA noNumber) 108)) w5.heap.size noNumber := heap_alloc_new w5 _
  exact hnew.put _ (by rw [hE]; rfl)

theorem newThere (w' : World) : (w'.alloc (.cells #[.bool false, .bool false, .bool false, .bool false, .bool false, .bool false, .bool false, .bool false, .bool false, .bool false, .bool false, .bool false, .bool false, .bool false, .bool false, .bool false, .bool false, .bool false, .bool false, .bool false, .bool false, .bool false, .bool false, .bool false, .bool false, .bool false, .bool false, .bool false, .bool false, .bool false, .bool false, .bool false, .bool false, .bool false, .bool false, .bool false, .bool false, .bool false, .bool false, .bool false, .bool false, .bool false, .bool false, .bool false, .bool false, .bool false, .bool false, .bool false, .bool false, .bool false, .bool false, .bool false, .bool false, .bool false, .bool false, .bool false, .bool false, .bool false, .bool false, .bool false] 108)).there w'.heap.size 0 60 := by
  have hnew : setRow (w'.alloc (.cells (setA noNumber) 108)) w'.heap.size noNumber := heap_alloc_new w' _
  exact hnew.there

set_option maxRecDepth 100000 in
set_option maxHeartbeats 8000000 in
theorem madeAhead_ok (args : Nat) (bks : List Code.Blk) (p : Option Addr) (c : Nat) (base : Nat) (w : World) (hf : RepBlks w base (.slice p bks.length c) bks) (hn : bks.length ≤ 8) (hn0 : 0 < bks.length) (hl : Code.Small bks) (ht : ∀ b ∈ bks, ∀ t ∈ Code.tg b.last, t < bks.length)
    (ha : ∀ A, A.length = bks.length → All60 A → Code.Iter bks (Code.startTo bks.length bks.length) A → Code.AheadOk bks A) :
    Calls Tryd.prog 36 #[.agg #[.int .i64 (args : Nat), .slice p bks.length c]] w fun e w' => e = .returned (.tuple #[]) ∧ Below w.heap.size w w' := by
  have HF := hide hf
  have HTG := hide ht
  have HL := hide hl
  clear hf ht hl
  go_enter Tryd.func36, Tryd.ntmps36
  go_wp2_with fail
  generalize hw0 : w.alloc _ = w0
  have hx0 : w0.heap[w.heap.size]? = some (.cells #[.int .i64 (args : Nat), .slice p bks.length c] 43) := by rw [← hw0]; exact heap_alloc_new w _
  have hb0 : Below w.heap.size w w0 := by rw [← hw0]; exact below_al (Below.refl _ _) _
  have hz0 : w0.heap.size = w.heap.size + 1 := by rw [← hw0]; simp
  clear hw0
  refine (edges_any args bks p c base w0 (HF.out.below hb0) hn HTG.out).mono ?_
  rintro e w1 ⟨mb, gc, n, rfl, hmb, hgc, hE, _, hb1⟩
  have hx1 := (hb1.block _ (lt_of_block hx0)).trans hx0
  have hbw1 : Below w.heap.size w w1 := hb0.trans (hb1.mono hb0.size)
  have hx1a := blk_cell hx1 0 _ rfl
  have hx1b := blk_cell hx1 1 _ rfl
  clear hx0 hb0 hb1
  go_wp2_with fail
  refine (madeAhead_any args bks p c base w1 (HF.out.below hbw1) hn hn0 (fun b hb => ⟨(HL.out b hb).1, fun v hv => ((HL.out b hb).2.1 v hv).1⟩) HTG.out).mono ?_
  rintro e w2 ⟨gA, A, rfl, hgA, hA, hA6, hrA, hit, hb2⟩
  have HAO := hide (ha A hA hA6 hit)
  have hx2 := (hb2.block _ (lt_of_block hx1)).trans hx1
  have hE2 := hE.below hb2
  have hbw2 : Below w.heap.size w w2 := hbw1.trans (hb2.mono hbw1.size)
  have hx2b := blk_cell hx2 1 _ rfl
  have hmb1 := hE.lt
  have hz1 := hbw1.size
  have hmbA : mb < gA := by omega
  clear hx1 hx1a hx1b hE hbw1 hb2 hit ha
  go_wp2_with fail
  obtain ⟨p', c', hpe, hblk⟩ := HF.out.open
  simp only [Value.slice.injEq] at hpe
  obtain ⟨rfl, _, rfl⟩ := hpe
  have HBLK := hide hblk
  clear hblk hx2b
  go_loopw [22] (fun i wr => ∃ j : Nat, j ≤ bks.length ∧ i = .int .i64 j ∧ setsRow wr gA A ∧ EMap wr mb n (Code.edges bks).places ∧ wr.heap[w.heap.size]? = some (.cells #[.int .i64 (args : Nat), .slice p bks.length c] 43) ∧ Below w.heap.size w wr) (fun i _ => bks.length - (intOf i).toNat)
  case atStart => exact ⟨0, by omega, rfl, hrA, hE2, hx2, hbw2⟩
  case round =>
    obtain ⟨j, hj, rfl, hrs, hEm, hxs, hbs⟩ := hrel
    clear hrA hE2 hx2 hbw2
    have hzs := hbs.size
    by_cases hlt : j < bks.length
    · obtain ⟨gb, vs, rfl, hg, c0, c1, hvs⟩ := HBLK.out j hlt
      obtain ⟨hlen, hnum, hul, hul6⟩ := HL.out bks[j] (List.getElem_mem hlt)
      have hjA : j < A.length := by omega
      obtain ⟨hvok, hlok, hpok⟩ := HAO.out j hlt hjA
      obtain ⟨pv, cv, rfl, hval⟩ := hvs.open
      have c0' : wr.cell? ⟨gb, j * 2, none⟩ = some (.slice pv bks[j].values.length cv) := by rw [(bcell hbs).1 gb _ hg]; exact c0
      obtain ⟨T, zv, hzv⟩ := lastV_shape bks[j].last
      have c1' : wr.cell? ⟨gb, j * 2 + 1, none⟩ = some (.iface T zv) := by rw [(bcell hbs).1 gb _ hg, ← hzv]; exact c1
      have HTA := hide (targets_any bks[j].last)
      have HUL := hide (usesOfLast_any bks[j].last)
      rw [hzv] at HTA HUL
      have htb : ∀ t ∈ Code.tg bks[j].last, t < bks.length := HTG.out bks[j] (List.getElem_mem hlt)
      have htl := Code.tg_length bks[j].last
      have hR60 : A[j].length = 60 := hA6 _ (List.getElem_mem hjA)
      have HRG : Hid (∀ w', setsRow w' gA A → w'.rangeAt gA (j * 60) (setL A[j])) := hide fun w' h => h.range hA6 j hjA
      have HV := hide hval
      have HVOK := hide hvok
      have HLOK := hide hlok
      have HPOK := hide hpok
      have HNUM := hide hnum
      have HUL6 := hide hul6
      generalize Code.useL bks[j].last = ul at *
      generalize Code.tg bks[j].last = tl at *
      generalize bks[j].values = vals at *
      generalize A[j] = Rj at *
      clear c0 c1 hvs hzv hval hvok hlok hpok hnum hul6
      have hjl : (j : Int) < (bks.length : Int) := by omega
      have hiR := setSize Rj hR60
      have hiR' : (Tryd.prog.info? 108).map (·.size) = some (setL Rj).toArray.size := setSize' Rj hR60
      have hoR : (setL Rj).toArray.all (·.oneCell') = true := setOne Rj
      have hlR : (setL Rj).toArray.size = 60 := by rw [List.size_toArray, setL_length]; exact hR60
      have hcc : (((wr.alloc (.cells #[.slice pv vals.length cv, .iface T zv] 72)).alloc (.cells #[.bool false, .bool false, .bool false, .bool false, .bool false, .bool false, .bool false, .bool false, .bool false, .bool false, .bool false, .bool false, .bool false, .bool false, .bool false, .bool false, .bool false, .bool false, .bool false, .bool false, .bool false, .bool false, .bool false, .bool false, .bool false, .bool false, .bool false, .bool false, .bool false, .bool false, .bool false, .bool false, .bool false, .bool false, .bool false, .bool false, .bool false, .bool false, .bool false, .bool false, .bool false, .bool false, .bool false, .bool false, .bool false, .bool false, .bool false, .bool false, .bool false, .bool false, .bool false, .bool false, .bool false, .bool false, .bool false, .bool false, .bool false, .bool false, .bool false, .bool false] 108)).setCells (wr.heap.size + 1) 0 (setL Rj)).cell? ⟨wr.heap.size, 0, none⟩ = some (.slice pv vals.length cv) := blk_cell (stay_cells (stay_alloc (heap_alloc_new wr _)) (by omega)) 0 _ rfl
      go_wp2_with (first | refine wpList_load_mid rfl 108 _ rfl gA (j * 60) rfl (setL Rj) _ (HRG.out _ (stay_alloc hrs)) Tryd.underlying108 rfl hiR ?_ | (refine wpList_store_mid rfl 108 _ _ rfl (wr.heap.size + 1) 0 (setL Rj).toArray rfl rfl ?_ hiR' hoR ?_; (rw [hlR]; (have h := newThere (wr.alloc (.cells #[.slice pv vals.length cv, .iface T zv] 72))); (rw [alloc_size] at h); exact h); (rw [show (setL Rj).toArray.toList = setL Rj from rfl])))
      generalize hw4 : World.setCells _ _ _ _ = w4
      have hM4 : setRow w4 (wr.heap.size + 1) Rj := by
        have h := newSet (wr.alloc (.cells #[.slice pv vals.length cv, .iface T zv] 72)) Rj hR60
        rw [alloc_size] at h
        rw [← hw4]; exact h
      have hb4 : Below wr.heap.size wr w4 := by rw [← hw4]; exact below_cells (below_al (below_al (Below.refl _ _) _) _) (Nat.le_succ _) _ _
      have hcp4 : w4.heap[wr.heap.size]? = some (.cells #[.slice pv vals.length cv, .iface T zv] 72) := by
        rw [← hw4]; exact stay_cells (stay_alloc (heap_alloc_new wr _)) (by omega)
      have hbw4 : Below w.heap.size w w4 := hbs.trans (hb4.mono hzs)
      have hrs4 : setsRow w4 gA A := (hb4.block _ (lt_of_block hrs)).trans hrs
      have hEm4 := hEm.below hb4
      have hxs4 := (hb4.block _ (lt_of_block hxs)).trans hxs
      have hltA := lt_of_block hrs
      have hltM := hEm.lt
      have hltX := lt_of_block hxs
      clear hw4 hrs hEm hxs hbs c0' c1' hb4
      clear hcc
      generalize hb6 : wr.heap.size = b6 at *
      rename World => wo
      go_loopw [34] (fun i ws => ∃ (k : Nat) (S : List Bool), k ≤ vals.length ∧ i = .int .i64 k ∧ S.length = 60 ∧ setRow ws (b6 + 1) S ∧ wo.grownBy ws (some (b6 + 1)) ∧ Hid (Code.ValsOk S (vals.drop k) ∧ Code.addAll S (vals.drop k) = Code.addAll Rj vals)) (fun i _ => vals.length - (intOf i).toNat)
      case atStart => exact ⟨0, Rj, by omega, rfl, hR60, hM4, grown_refl _ _, hide ⟨HVOK.out, rfl⟩⟩
      case round =>
        obtain ⟨k, S, hk, rfl, hS, hMk, hgk, hsp⟩ := hrel
        clear hM4
        have hbk := below_of_grown hbw4 hgk (by omega)
        have hMl := lt_of_block hMk
        by_cases hkt : k < vals.length
        · obtain ⟨g2, th, rfl, hg2, d0, d1, hth⟩ := HV.out k hkt
          obtain ⟨hx60, hul2, hu60⟩ := HNUM.out vals[k] (List.getElem_mem hkt)
          have hvo := hsp.out.1
          have hva := hsp.out.2
          rw [List.drop_eq_getElem_cons hkt] at hvo hva
          have HH := hide hvo.1
          have HN : Hid (Code.ValsOk (S.set vals[k].num true) (vals.drop (k + 1)) ∧ Code.addAll (S.set vals[k].num true) (vals.drop (k + 1)) = Code.addAll Rj vals) := hide ⟨hvo.2, hva⟩
          have d0' : wr.cell? ⟨g2, k * 2, none⟩ = some (.int .i64 (vals[k].num : Nat)) := by rw [(bcell hbk).1 g2 _ hg2]; exact d0
          have d1' : wr.cell? ⟨g2, k * 2 + 1, none⟩ = some th := by rw [(bcell hbk).1 g2 _ hg2]; exact d1
          have HTH := hide hth
          generalize vals[k].thing = y at *
          generalize vals[k].num = x at *
          obtain ⟨T', tv, rfl⟩ := hth.shape
          clear d0 d1 hth hsp hvo hva
          have hx' : (x : Int) < 60 := by omega
          obtain ⟨bx, hcx⟩ : ∃ bx, wr.cell? ⟨b6 + 1, x, none⟩ = some bx := ⟨_, hMk.cell x (by omega)⟩
          go_wp2_with fail
          generalize hw9 : wr.alloc _ = w9
          have hb9 : Below wr.heap.size wr w9 := by rw [← hw9]; exact below_al (Below.refl _ _) _
          have hcp9 : w9.heap[wr.heap.size]? = some (.cells #[.int .i64 (x : Nat), .iface T' tv] 88) := by rw [← hw9]; exact heap_alloc_new wr _
          have hM9 : setRow w9 (b6 + 1) S := (hb9.block _ hMl).trans hMk
          have hbw9 : Below w.heap.size w w9 := hbk.trans (hb9.mono hbk.size)
          generalize hb8 : wr.heap.size = b8 at *
          clear hw9 d0' d1' hcx
          have e1 : ∀ w', Below w9.heap.size w9 w' → w'.cell? ⟨b8, 1, none⟩ = some (.iface T' tv) := fun w' h => blk_cell ((h.block _ (lt_of_block hcp9)).trans hcp9) 1 _ rfl
          have HRG9 : Hid (∀ w', Below w9.heap.size w9 w' → w'.rangeAt (b6 + 1) 0 (setL S)) := hide fun w' h => setRow.range (w := w') ((h.block _ (lt_of_block hM9)).trans hM9)
          have HUP : Hid (∀ w', Below w9.heap.size w9 w' → Calls Tryd.prog 48 #[.iface T' tv] w' fun e w'' => ∃ r, e = .returned r ∧ w''.ownsRow base 3 1 r (Code.useT y).length (nats (Code.useT y)) ∧ Below w9.heap.size w9 w'') := hide fun w' h => by
            have hbw' : Below w.heap.size w w' := hbw9.trans (h.mono hbw9.size)
            refine (usesInPlace_any y (.iface T' tv) base w' (HTH.out.mono (fun _ _ _ h => own_below h hbw'))).mono ?_
            rintro e w'' ⟨r, h1, h2, h3⟩
            exact ⟨r, h1, h2, h.trans (h3.mono h.size)⟩
          have HHA : Hid (∀ w' r, Below w9.heap.size w9 w' → w'.ownsRow base 3 1 r (Code.useT y).length (nats (Code.useT y)) → Calls Tryd.prog 47 #[.agg (setL S).toArray, r] w' fun e w'' => e = .returned (.bool true) ∧ Below w9.heap.size w9 w'') := hide fun w' r h hr => by
            refine (hasAll_any S hS (Code.useT y) hu60 hul2 r base w' hr).mono ?_
            rintro e w'' ⟨h1, h2⟩
            rw [HH.out] at h1
            exact ⟨h1, h.trans (h2.mono h.size)⟩
          have hu := Tryd.underlying108
          have hi60 := setSize S hS
          have hl60 : (setL S).length = 60 := by rw [setL_length]; exact hS
          go_region_held3 (fun w' => Below w9.heap.size w9 w' ∧ w'.rangeAt (b6 + 1) 0 (setL S)) (first | assumption | (go_split_ands; (try dsimp only); refine ⟨?_, HRG9.out _ ?_⟩ <;> (repeat' (first | assumption | exact Below.refl _ _ | apply Below.drew)))) (first | (go_at_call 48; refine (HUP.out _ ?_).mono ?_; (repeat' (first | assumption | exact Below.refl _ _ | apply Below.drew)); rintro e w10 ⟨r, rfl, hrow, hb10⟩) | (go_at_call 47; refine (HHA.out _ _ ?_ ?_).mono ?_; (exact hb10); (exact hrow); rintro e w11 ⟨rfl, hb11⟩))
          have hcp11 := (hb11.block _ (lt_of_block hcp9)).trans hcp9
          have hM11 : setRow w11 (b6 + 1) S := (hb11.block _ (lt_of_block hM9)).trans hM9
          have f0 := blk_cell hcp11 0 _ rfl
          obtain ⟨by11, hcx11⟩ : ∃ b, w11.cell? ⟨b6 + 1, x, none⟩ = some b := ⟨_, hM11.cell x (by omega)⟩
          have hfz11 := blk_froz hM11 x
          have hg11 : wo.grownBy w11 (some (b6 + 1)) := grown_trans hgk (grown_below (hb8 ▸ (hb9.trans (hb11.mono (hb8 ▸ hb9.size)))))
          clear hcp9 hM9 e1 HRG9 HUP HHA hi60 hl60 hu
          go_wp2
          exact ⟨⟨k + 1, S.set x true, by omega, by go_num, by simp [hS], hM11.set x true, grown_trans hg11 (grown_set _ _ _ _), HN⟩, by simp [intOf]; omega⟩
        · have HSA : Hid (S = Code.addAll Rj vals) := by
            have h := hsp.out.2
            rw [List.drop_of_length_le (by omega)] at h
            exact h
          clear hsp
          have hcpk := kept_block hcp4 hgk (by omega)
          have hb6l := lt_of_block hcpk
          have e1 : ∀ w', Below wr.heap.size wr w' → w'.cell? ⟨b6, 1, none⟩ = some (.iface T zv) := fun w' h => blk_cell ((h.block _ hb6l).trans hcpk) 1 _ rfl
          have HRG9 : Hid (∀ w', Below wr.heap.size wr w' → w'.rangeAt (b6 + 1) 0 (setL S)) := hide fun w' h => setRow.range (w := w') ((h.block _ hMl).trans hMk)
          have HUP : Hid (∀ w', Below wr.heap.size wr w' → Calls Tryd.prog 49 #[.iface T zv] w' fun e w'' => ∃ r, e = .returned r ∧ w''.ownsRow 0 3 1 r ul.length (nats ul) ∧ Below wr.heap.size wr w'') := hide fun w' h => by
            refine (HUL.out w').mono ?_
            rintro e w'' ⟨r, h1, h2, h3⟩
            exact ⟨r, h1, own_base h2 (Nat.zero_le _), h.trans (h3.mono h.size)⟩
          have HHA : Hid (∀ w' r, Below wr.heap.size wr w' → w'.ownsRow 0 3 1 r ul.length (nats ul) → Calls Tryd.prog 47 #[.agg (setL S).toArray, r] w' fun e w'' => e = .returned (.bool true) ∧ Below wr.heap.size wr w'') := hide fun w' r h hr => by
            refine (hasAll_any S hS ul HUL6.out hul r 0 w' hr).mono ?_
            rintro e w'' ⟨h1, h2⟩
            rw [HSA.out, HLOK.out] at h1
            exact ⟨h1, h.trans (h2.mono h.size)⟩
          have hu := Tryd.underlying108
          have hi60 := setSize S hS
          have hl60 : (setL S).length = 60 := by rw [setL_length]; exact hS
          go_wp2_with fail
          go_region_held3 (fun w' => Below wr.heap.size wr w' ∧ w'.rangeAt (b6 + 1) 0 (setL S)) (first | assumption | (go_split_ands; (try dsimp only); refine ⟨?_, HRG9.out _ ?_⟩ <;> (repeat' (first | assumption | exact Below.refl _ _ | apply Below.drew)))) (first | (go_at_call 49; refine (HUP.out _ ?_).mono ?_; (repeat' (first | assumption | exact Below.refl _ _ | apply Below.drew)); rintro e w10 ⟨r, rfl, hrow, hb10⟩) | (go_at_call 47; refine (HHA.out _ _ ?_ ?_).mono ?_; (exact hb10); (exact hrow); rintro e w11 ⟨rfl, hb11⟩))
          have f1 := e1 w11 hb11
          clear e1 HRG9 HUP HHA hi60 hl60 hu
          go_wp2_with fail
          refine (HTA.out w11).mono ?_
          rintro e w12 ⟨v12, rfl, hown12, hb12⟩
          have hbq : Below wr.heap.size wr w12 := hb11.trans (hb12.mono hb11.size)
          have hg12 : wo.grownBy w12 (some (b6 + 1)) := grown_trans hgk (grown_below hbq)
          have hM12 : setRow w12 (b6 + 1) S := (hbq.block _ hMl).trans hMk
          have hz11 := hb11.size
          have hzk := hgk.size
          clear f1 hb11 hb12 hbq hcpk hMk hgk hbk
          obtain ⟨p12, c12, rfl, _⟩ := nats_open hown12
          go_wp2_with fail
          rename World => wz
          have hbwz := below_of_grown hbw4 hg12 (by omega)
          have hxsz := kept_block hxs4 hg12 (by omega)
          have hEmz := hEm4.kept hg12 (by simp; omega)
          have hrsz := kept_block hrs4 hg12 (by omega)
          have hmbz := hEmz.lt
          go_loopw [66] (fun i ws => ∃ k : Nat, k ≤ tl.length ∧ i = .int .i64 k ∧ Below wz.heap.size wz ws) (fun i _ => tl.length - (intOf i).toNat)
          case atStart => exact ⟨0, by omega, rfl, Below.refl _ _⟩
          case round =>
            obtain ⟨k, hk, rfl, hbz⟩ := hrel
            have hbwr : Below w.heap.size w wr := hbwz.trans (hbz.mono hbwz.size)
            by_cases hkt : k < tl.length
            · obtain ⟨p13, c13, hpe, hval13⟩ := nats_open (own_below hown12 hbz)
              simp only [Value.slice.injEq] at hpe
              obtain ⟨rfl, _, rfl⟩ := hpe
              obtain ⟨g13, rfl, ct⟩ := hval13 k hkt
              have htk := htb tl[k] (List.getElem_mem hkt)
              have HPM := hide (HPOK.out k hkt htk)
              rw [← HSA.out] at HPM
              have hlenT := (HL.out bks[tl[k]] (List.getElem_mem htk)).1
              have hx0 : ∀ w', Below wr.heap.size wr w' → w'.cell? ⟨w.heap.size, 0, none⟩ = some (.int .i64 (args : Nat)) := fun w' h => blk_cell ((h.block _ (Nat.lt_of_lt_of_le (lt_of_block hxsz) hbz.size)).trans ((hbz.block _ (lt_of_block hxsz)).trans hxsz)) 0 _ rfl
              have hx1 : ∀ w', Below wr.heap.size wr w' → w'.cell? ⟨w.heap.size, 1, none⟩ = some (.slice (some ⟨gb, 0, none⟩) bks.length c) := fun w' h => blk_cell ((h.block _ (Nat.lt_of_lt_of_le (lt_of_block hxsz) hbz.size)).trans ((hbz.block _ (lt_of_block hxsz)).trans hxsz)) 1 _ rfl
              have HRG9 : Hid (∀ w', Below wr.heap.size wr w' → w'.rangeAt (b6 + 1) 0 (setL S)) := hide fun w' h => setRow.range (w := w') ((h.block _ (Nat.lt_of_lt_of_le (lt_of_block hM12) hbz.size)).trans ((hbz.block _ (lt_of_block hM12)).trans hM12))
              have hlook : ∀ w', Below wr.heap.size wr w' → (Instr.lookup 65 (.map (some mb)) (.agg #[.int .i64 (j : Nat), .int .i64 (k : Nat)]) false).run Tryd.prog w' = .ok (.int .i64 ((Code.edges bks).places j k : Nat)) w' := fun w' h => ((hEmz.below hbz).below h).look j k (by omega) (by omega)
              have HCP : Hid (∀ w', Below wr.heap.size wr w' → Calls Tryd.prog 50 #[.agg #[.int .i64 (args : Nat), .slice (some ⟨gb, 0, none⟩) bks.length c], .int .i64 (tl[k] : Nat), .int .i64 ((Code.edges bks).places j k : Nat), .agg (setL S).toArray] w' fun e w'' => e = .returned (.tuple #[]) ∧ Below wr.heap.size wr w'') := hide fun w' h => by
                refine (phisMade_ok args bks (some ⟨gb, 0, none⟩) c base w' (HF.out.below (hbwr.trans (h.mono hbwr.size))) tl[k] htk hlenT _ S hS HPM.out).mono ?_
                rintro e w'' ⟨h1, h2⟩
                exact ⟨h1, h.trans (h2.mono h.size)⟩
              have hu := Tryd.underlying108
              have hi60 := setSize S hS
              have hl60 : (setL S).length = 60 := by rw [setL_length]; exact hS
              generalize (Code.edges bks).places j k = pl at *
              generalize tl[k] = tk at *
              clear hval13
              go_wp2_with fail
              go_region_held3 (fun w' => Below wr.heap.size wr w' ∧ w'.rangeAt (b6 + 1) 0 (setL S)) (first | assumption | (go_split_ands; (try dsimp only); refine ⟨?_, HRG9.out _ ?_⟩ <;> (repeat' (first | assumption | exact Below.refl _ _ | apply Below.drew)))) (first | (go_at_call 50; refine (HCP.out _ ?_).mono ?_; (repeat' (first | assumption | exact Below.refl _ _ | apply Below.drew)); rintro e w14 ⟨rfl, hb14⟩))
              go_wp2
              exact ⟨⟨k + 1, by omega, by go_num, hbz.trans (hb14.mono hbz.size)⟩, by simp [intOf]; omega⟩
            · go_wp2
              refine ⟨⟨j + 1, by omega, by go_num, (hbz.block _ (lt_of_block hrsz)).trans hrsz, hEmz.below hbz, (hbz.block _ (lt_of_block hxsz)).trans hxsz, hbwr⟩, by simp [intOf]; omega⟩
    · go_wp2
      go_end0
      exact ⟨rfl, hbs⟩
end Go.Proofs.YtdffpkmabehfbaaDoor
