/-
  Walk: code.Function.requireMadeAhead, where it holds.
  Walks: code.Function.requireRight, code.Read, where the text is a function that is right.
  Walks: ir.read, where the text is a function that is right.
  Walk: code.Op.Reckon: what an operation comes to.
  A machine in memory; walks: code.machine.step, reckon.
-/
import Derived.Test.YtedkjanogjglkaaDoorP06
import Derived.Recover

namespace Go.Proofs.YtedkjanogjglkaaDoor
open Go.RowKit

namespace Code
/-- Each value uses what is made; then it is made. -/
def ValsOk : List Bool → List Val → Prop
  | _, [] => True
  | R, v :: l => hasAll R (useT v.thing) = true ∧ ValsOk (R.set v.num true) l

/-- All that a block uses has been made, on every way; what the phis behind it take, at its end. -/
def AheadOk (bks : List Blk) (A : Sets) : Prop :=
  ∀ j (h : j < bks.length) (h' : j < A.length), ValsOk A[j] bks[j].values ∧ hasAll (addAll A[j] bks[j].values) (useL bks[j].last) = true ∧
    ∀ k (hk : k < (tg bks[j].last).length) (ht : (tg bks[j].last)[k] < bks.length), PhisMade bks[(tg bks[j].last)[k]].values ((edges bks).places j k) (addAll A[j] bks[j].values)

/-- v numbers, and how many there are. -/
def Small (bks : List Blk) : Prop := ∀ b ∈ bks, b.values.length ≤ 100000 ∧ (∀ v ∈ b.values, v.num < 60 ∧ (useT v.thing).length ≤ 100000 ∧ ∀ x ∈ useT v.thing, x < 60) ∧ (useL b.last).length ≤ 100000 ∧ ∀ x ∈ useL b.last, x < 60
end Code

theorem below_of_grown {w w4 ws : World} {b : Nat} (h : Below w.heap.size w w4) (hg : w4.grownBy ws (some b)) (hb : w.heap.size ≤ b) : Below w.heap.size w ws :=
  h.trans ⟨hg.os, hg.tape, hg.output, hg.size, fun k hk => hg.block k (Nat.lt_of_lt_of_le hk h.size) (fun e => by simp at e; omega)⟩

theorem newSet (w5 : World) (E : List Bool) (hE : E.length = 60) : setRow ((w5.alloc (.cells #[.bool false, .bool false, .bool false, .bool false, .bool false, .bool false, .bool false, .bool false, .bool false, .bool false, .bool false, .bool false, .bool false, .bool false, .bool false, .bool false, .bool false, .bool false, .bool false, .bool false, .bool false, .bool false, .bool false, .bool false, .bool false, .bool false, .bool false, .bool false, .bool false, .bool false, .bool false, .bool false, .bool false, .bool false, .bool false, .bool false, .bool false, .bool false, .bool false, .bool false, .bool false, .bool false, .bool false, .bool false, .bool false, .bool false, .bool false, .bool false, .bool false, .bool false, .bool false, .bool false, .bool false, .bool false, .bool false, .bool false, .bool false, .bool false, .bool false, .bool false] 159)).setCells w5.heap.size 0 (setL E).toArray.toList) w5.heap.size E := by
  have hnew : setRow (w5.alloc (.cells (setA noNumber) 159)) w5.heap.size noNumber := heap_alloc_new w5 _
  exact hnew.put _ (by rw [hE]; rfl)

theorem newThere (w' : World) : (w'.alloc (.cells #[.bool false, .bool false, .bool false, .bool false, .bool false, .bool false, .bool false, .bool false, .bool false, .bool false, .bool false, .bool false, .bool false, .bool false, .bool false, .bool false, .bool false, .bool false, .bool false, .bool false, .bool false, .bool false, .bool false, .bool false, .bool false, .bool false, .bool false, .bool false, .bool false, .bool false, .bool false, .bool false, .bool false, .bool false, .bool false, .bool false, .bool false, .bool false, .bool false, .bool false, .bool false, .bool false, .bool false, .bool false, .bool false, .bool false, .bool false, .bool false, .bool false, .bool false, .bool false, .bool false, .bool false, .bool false, .bool false, .bool false, .bool false, .bool false, .bool false, .bool false] 159)).there w'.heap.size 0 60 := by
  have hnew : setRow (w'.alloc (.cells (setA noNumber) 159)) w'.heap.size noNumber := heap_alloc_new w' _
  exact hnew.there

set_option maxRecDepth 100000 in
set_option maxHeartbeats 8000000 in
theorem madeAhead_ok (args : Nat) (bks : List Code.Blk) (p : Option Addr) (c : Nat) (base : Nat) (w : World) (hf : RepBlks w base (.slice p bks.length c) bks) (hn : bks.length ≤ 8) (hn0 : 0 < bks.length) (hl : Code.Small bks) (ht : ∀ b ∈ bks, ∀ t ∈ Code.tg b.last, t < bks.length)
    (ha : ∀ A, A.length = bks.length → All60 A → Code.Iter bks (Code.startTo bks.length bks.length) A → Code.AheadOk bks A) :
    Calls Tryd.prog 72 #[.agg #[.int .i64 (args : Nat), .slice p bks.length c]] w fun e w' => e = .returned (.tuple #[]) ∧ Below w.heap.size w w' := by
  have HF := hide hf
  have HTG := hide ht
  have HL := hide hl
  clear hf ht hl
  go_enter Tryd.func72, Tryd.ntmps72
  go_wp2_with fail
  generalize hw0 : w.alloc _ = w0
  have hx0 : w0.heap[w.heap.size]? = some (.cells #[.int .i64 (args : Nat), .slice p bks.length c] 47) := by rw [← hw0]; exact heap_alloc_new w _
  have hb0 : Below w.heap.size w w0 := by rw [← hw0]; exact below_al (Below.refl _ _) _
  have hz0 : w0.heap.size = w.heap.size + 1 := by rw [← hw0]; simp
  clear hw0
  refine (edges_any args bks p c base w0 (HF.out.below hb0) hn HTG.out).mono ?_
  rintro e w1 ⟨mb, gc, n, rfl, hmb, hgc, hE, _, hb1⟩
  have hx1 := (hb1.block _ (lt_of_block hx0)).trans hx0
  have hbw1 : Below w.heap.size w w1 := hb0.trans (hb1.mono hb0.size)
  have hx1a := blk_cell hx1 0 _ rfl
  have hx1b := blk_cell hx1 1 _ rfl
  clear hx0 hb0 hb1
  go_wp2_with fail
  refine (madeAhead_any args bks p c base w1 (HF.out.below hbw1) hn hn0 (fun b hb => ⟨(HL.out b hb).1, fun v hv => ((HL.out b hb).2.1 v hv).1⟩) HTG.out).mono ?_
  rintro e w2 ⟨gA, A, rfl, hgA, hA, hA6, hrA, hit, hb2⟩
  have HAO := hide (ha A hA hA6 hit)
  have hx2 := (hb2.block _ (lt_of_block hx1)).trans hx1
  have hE2 := hE.below hb2
  have hbw2 : Below w.heap.size w w2 := hbw1.trans (hb2.mono hbw1.size)
  have hx2b := blk_cell hx2 1 _ rfl
  have hmb1 := hE.lt
  have hz1 := hbw1.size
  have hmbA : mb < gA := by omega
  clear hx1 hx1a hx1b hE hbw1 hb2 hit ha
  go_wp2_with fail
  obtain ⟨p', c', hpe, hblk⟩ := HF.out.open
  simp only [Value.slice.injEq] at hpe
  obtain ⟨rfl, _, rfl⟩ := hpe
  have HBLK := hide hblk
  clear hblk hx2b
  go_loopw [22] (fun i wr => ∃ j : Nat, j ≤ bks.length ∧ i = .int .i64 j ∧ setsRow wr gA A ∧ EMap wr mb n (Code.edges bks).places ∧ wr.heap[w.heap.size]? = some (.cells #[.int .i64 (args : Nat), .slice p bks.length c] 47) ∧ Below w.heap.size w wr) (fun i _ => bks.length - (intOf i).toNat)
  case atStart => exact ⟨0, by omega, rfl, hrA, hE2, hx2, hbw2⟩
  case round =>
    obtain ⟨j, hj, rfl, hrs, hEm, hxs, hbs⟩ := hrel
    clear hrA hE2 hx2 hbw2
    have hzs := hbs.size
    by_cases hlt : j < bks.length
    · obtain ⟨gb, vs, rfl, hg, c0, c1, hvs⟩ := HBLK.out j hlt
      obtain ⟨hlen, hnum, hul, hul6⟩ := HL.out bks[j] (List.getElem_mem hlt)
      have hjA : j < A.length := by omega
      obtain ⟨hvok, hlok, hpok⟩ := HAO.out j hlt hjA
      obtain ⟨pv, cv, rfl, hval⟩ := hvs.open
      have c0' : wr.cell? ⟨gb, j * 2, none⟩ = some (.slice pv bks[j].values.length cv) := by rw [(bcell hbs).1 gb _ hg]; exact c0
      obtain ⟨T, zv, hzv⟩ := lastV_shape bks[j].last
      have c1' : wr.cell? ⟨gb, j * 2 + 1, none⟩ = some (.iface T zv) := by rw [(bcell hbs).1 gb _ hg, ← hzv]; exact c1
      have HTA := hide (targets_any bks[j].last)
      have HUL := hide (usesOfLast_any bks[j].last)
      rw [hzv] at HTA HUL
      have htb : ∀ t ∈ Code.tg bks[j].last, t < bks.length := HTG.out bks[j] (List.getElem_mem hlt)
      have htl := Code.tg_length bks[j].last
      have hR60 : A[j].length = 60 := hA6 _ (List.getElem_mem hjA)
      have HRG : Hid (∀ w', setsRow w' gA A → w'.rangeAt gA (j * 60) (setL A[j])) := hide fun w' h => h.range hA6 j hjA
      have HV := hide hval
      have HVOK := hide hvok
      have HLOK := hide hlok
      have HPOK := hide hpok
      have HNUM := hide hnum
      have HUL6 := hide hul6
      generalize Code.useL bks[j].last = ul at *
      generalize Code.tg bks[j].last = tl at *
      generalize bks[j].values = vals at *
      generalize A[j] = Rj at *
      clear c0 c1 hvs hzv hval hvok hlok hpok hnum hul6
      have hjl : (j : Int) < (bks.length : Int) := by omega
      have hiR := setSize Rj hR60
      have hiR' : (Tryd.prog.info? 159).map (·.size) = some (setL Rj).toArray.size := setSize' Rj hR60
      have hoR : (setL Rj).toArray.all (·.oneCell') = true := setOne Rj
      have hlR : (setL Rj).toArray.size = 60 := by rw [List.size_toArray, setL_length]; exact hR60
      have hcc : (((wr.alloc (.cells #[.slice pv vals.length cv, .iface T zv] 89)).alloc (.cells #[.bool false, .bool false, .bool false, .bool false, .bool false, .bool false, .bool false, .bool false, .bool false, .bool false, .bool false, .bool false, .bool false, .bool false, .bool false, .bool false, .bool false, .bool false, .bool false, .bool false, .bool false, .bool false, .bool false, .bool false, .bool false, .bool false, .bool false, .bool false, .bool false, .bool false, .bool false, .bool false, .bool false, .bool false, .bool false, .bool false, .bool false, .bool false, .bool false, .bool false, .bool false, .bool false, .bool false, .bool false, .bool false, .bool false, .bool false, .bool false, .bool false, .bool false, .bool false, .bool false, .bool false, .bool false, .bool false, .bool false, .bool false, .bool false, .bool false, .bool false] 159)).setCells (wr.heap.size + 1) 0 (setL Rj)).cell? ⟨wr.heap.size, 0, none⟩ = some (.slice pv vals.length cv) := blk_cell (stay_cells (stay_alloc (heap_alloc_new wr _)) (by omega)) 0 _ rfl
      go_wp2_with (first | refine wpList_load_mid rfl 159 _ rfl gA (j * 60) rfl (setL Rj) _ (HRG.out _ (stay_alloc hrs)) Tryd.underlying159 rfl hiR ?_ | (refine wpList_store_mid rfl 159 _ _ rfl (wr.heap.size + 1) 0 (setL Rj).toArray rfl rfl ?_ hiR' hoR ?_; (rw [hlR]; (have h := newThere (wr.alloc (.cells #[.slice pv vals.length cv, .iface T zv] 89))); (rw [alloc_size] at h); exact h); (rw [show (setL Rj).toArray.toList = setL Rj from rfl])))
      generalize hw4 : World.setCells _ _ _ _ = w4
      have hM4 : setRow w4 (wr.heap.size + 1) Rj := by
        have h := newSet (wr.alloc (.cells #[.slice pv vals.length cv, .iface T zv] 89)) Rj hR60
        rw [alloc_size] at h
        rw [← hw4]; exact h
      have hb4 : Below wr.heap.size wr w4 := by rw [← hw4]; exact below_cells (below_al (below_al (Below.refl _ _) _) _) (Nat.le_succ _) _ _
      have hcp4 : w4.heap[wr.heap.size]? = some (.cells #[.slice pv vals.length cv, .iface T zv] 89) := by
        rw [← hw4]; exact stay_cells (stay_alloc (heap_alloc_new wr _)) (by omega)
      have hbw4 : Below w.heap.size w w4 := hbs.trans (hb4.mono hzs)
      have hrs4 : setsRow w4 gA A := (hb4.block _ (lt_of_block hrs)).trans hrs
      have hEm4 := hEm.below hb4
      have hxs4 := (hb4.block _ (lt_of_block hxs)).trans hxs
      have hltA := lt_of_block hrs
      have hltM := hEm.lt
      have hltX := lt_of_block hxs
      clear hw4 hrs hEm hxs hbs c0' c1' hb4
      clear hcc
      generalize hb6 : wr.heap.size = b6 at *
      rename World => wo
      go_loopw [34] (fun i ws => ∃ (k : Nat) (S : List Bool), k ≤ vals.length ∧ i = .int .i64 k ∧ S.length = 60 ∧ setRow ws (b6 + 1) S ∧ wo.grownBy ws (some (b6 + 1)) ∧ Hid (Code.ValsOk S (vals.drop k) ∧ Code.addAll S (vals.drop k) = Code.addAll Rj vals)) (fun i _ => vals.length - (intOf i).toNat)
      case atStart => exact ⟨0, Rj, by omega, rfl, hR60, hM4, grown_refl _ _, hide ⟨HVOK.out, rfl⟩⟩
      case round =>
        obtain ⟨k, S, hk, rfl, hS, hMk, hgk, hsp⟩ := hrel
        clear hM4
        have hbk := below_of_grown hbw4 hgk (by omega)
        have hMl := lt_of_block hMk
        by_cases hkt : k < vals.length
        · obtain ⟨g2, th, rfl, hg2, d0, d1, hth⟩ := HV.out k hkt
          obtain ⟨hx60, hul2, hu60⟩ := HNUM.out vals[k] (List.getElem_mem hkt)
          have hvo := hsp.out.1
          have hva := hsp.out.2
          rw [List.drop_eq_getElem_cons hkt] at hvo hva
          have HH := hide hvo.1
          have HN : Hid (Code.ValsOk (S.set vals[k].num true) (vals.drop (k + 1)) ∧ Code.addAll (S.set vals[k].num true) (vals.drop (k + 1)) = Code.addAll Rj vals) := hide ⟨hvo.2, hva⟩
          have d0' : wr.cell? ⟨g2, k * 2, none⟩ = some (.int .i64 (vals[k].num : Nat)) := by rw [(bcell hbk).1 g2 _ hg2]; exact d0
          have d1' : wr.cell? ⟨g2, k * 2 + 1, none⟩ = some th := by rw [(bcell hbk).1 g2 _ hg2]; exact d1
          have HTH := hide hth
          generalize vals[k].thing = y at *
          generalize vals[k].num = x at *
          obtain ⟨T', tv, rfl⟩ := hth.shape
          clear d0 d1 hth hsp hvo hva
          have hx' : (x : Int) < 60 := by omega
          obtain ⟨bx, hcx⟩ : ∃ bx, wr.cell? ⟨b6 + 1, x, none⟩ = some bx := ⟨_, hMk.cell x (by omega)⟩
          go_wp2_with fail
          generalize hw9 : wr.alloc _ = w9
          have hb9 : Below wr.heap.size wr w9 := by rw [← hw9]; exact below_al (Below.refl _ _) _
          have hcp9 : w9.heap[wr.heap.size]? = some (.cells #[.int .i64 (x : Nat), .iface T' tv] 93) := by rw [← hw9]; exact heap_alloc_new wr _
          have hM9 : setRow w9 (b6 + 1) S := (hb9.block _ hMl).trans hMk
          have hbw9 : Below w.heap.size w w9 := hbk.trans (hb9.mono hbk.size)
          generalize hb8 : wr.heap.size = b8 at *
          clear hw9 d0' d1' hcx
          have e1 : ∀ w', Below w9.heap.size w9 w' → w'.cell? ⟨b8, 1, none⟩ = some (.iface T' tv) := fun w' h => blk_cell ((h.block _ (lt_of_block hcp9)).trans hcp9) 1 _ rfl
          have HRG9 : Hid (∀ w', Below w9.heap.size w9 w' → w'.rangeAt (b6 + 1) 0 (setL S)) := hide fun w' h => setRow.range (w := w') ((h.block _ (lt_of_block hM9)).trans hM9)
          have HUP : Hid (∀ w', Below w9.heap.size w9 w' → Calls Tryd.prog 85 #[.iface T' tv] w' fun e w'' => ∃ r, e = .returned r ∧ w''.ownsRow base 3 1 r (Code.useT y).length (nats (Code.useT y)) ∧ Below w9.heap.size w9 w'') := hide fun w' h => by
            have hbw' : Below w.heap.size w w' := hbw9.trans (h.mono hbw9.size)
            refine (usesInPlace_any y (.iface T' tv) base w' (HTH.out.mono (fun _ _ _ h => own_below h hbw'))).mono ?_
            rintro e w'' ⟨r, h1, h2, h3⟩
            exact ⟨r, h1, h2, h.trans (h3.mono h.size)⟩
          have HHA : Hid (∀ w' r, Below w9.heap.size w9 w' → w'.ownsRow base 3 1 r (Code.useT y).length (nats (Code.useT y)) → Calls Tryd.prog 84 #[.agg (setL S).toArray, r] w' fun e w'' => e = .returned (.bool true) ∧ Below w9.heap.size w9 w'') := hide fun w' r h hr => by
            refine (hasAll_any S hS (Code.useT y) hu60 hul2 r base w' hr).mono ?_
            rintro e w'' ⟨h1, h2⟩
            rw [HH.out] at h1
            exact ⟨h1, h.trans (h2.mono h.size)⟩
          have hu := Tryd.underlying159
          have hi60 := setSize S hS
          have hl60 : (setL S).length = 60 := by rw [setL_length]; exact hS
          go_region_held3 (fun w' => Below w9.heap.size w9 w' ∧ w'.rangeAt (b6 + 1) 0 (setL S)) (first | assumption | (go_split_ands; (try dsimp only); refine ⟨?_, HRG9.out _ ?_⟩ <;> (repeat' (first | assumption | exact Below.refl _ _ | apply Below.drew)))) (first | (go_at_call 85; refine (HUP.out _ ?_).mono ?_; (repeat' (first | assumption | exact Below.refl _ _ | apply Below.drew)); rintro e w10 ⟨r, rfl, hrow, hb10⟩) | (go_at_call 84; refine (HHA.out _ _ ?_ ?_).mono ?_; (exact hb10); (exact hrow); rintro e w11 ⟨rfl, hb11⟩))
          have hcp11 := (hb11.block _ (lt_of_block hcp9)).trans hcp9
          have hM11 : setRow w11 (b6 + 1) S := (hb11.block _ (lt_of_block hM9)).trans hM9
          have f0 := blk_cell hcp11 0 _ rfl
          obtain ⟨by11, hcx11⟩ : ∃ b, w11.cell? ⟨b6 + 1, x, none⟩ = some b := ⟨_, hM11.cell x (by omega)⟩
          have hfz11 := blk_froz hM11 x
          have hg11 : wo.grownBy w11 (some (b6 + 1)) := grown_trans hgk (grown_below (hb8 ▸ (hb9.trans (hb11.mono (hb8 ▸ hb9.size)))))
          clear hcp9 hM9 e1 HRG9 HUP HHA hi60 hl60 hu
          go_wp2
          exact ⟨⟨k + 1, S.set x true, by omega, by go_num, by simp [hS], hM11.set x true, grown_trans hg11 (grown_set _ _ _ _), HN⟩, by simp [intOf]; omega⟩
        · have HSA : Hid (S = Code.addAll Rj vals) := by
            have h := hsp.out.2
            rw [List.drop_of_length_le (by omega)] at h
            exact h
          clear hsp
          have hcpk := kept_block hcp4 hgk (by omega)
          have hb6l := lt_of_block hcpk
          have e1 : ∀ w', Below wr.heap.size wr w' → w'.cell? ⟨b6, 1, none⟩ = some (.iface T zv) := fun w' h => blk_cell ((h.block _ hb6l).trans hcpk) 1 _ rfl
          have HRG9 : Hid (∀ w', Below wr.heap.size wr w' → w'.rangeAt (b6 + 1) 0 (setL S)) := hide fun w' h => setRow.range (w := w') ((h.block _ hMl).trans hMk)
          have HUP : Hid (∀ w', Below wr.heap.size wr w' → Calls Tryd.prog 86 #[.iface T zv] w' fun e w'' => ∃ r, e = .returned r ∧ w''.ownsRow 0 3 1 r ul.length (nats ul) ∧ Below wr.heap.size wr w'') := hide fun w' h => by
            refine (HUL.out w').mono ?_
            rintro e w'' ⟨r, h1, h2, h3⟩
            exact ⟨r, h1, own_base h2 (Nat.zero_le _), h.trans (h3.mono h.size)⟩
          have HHA : Hid (∀ w' r, Below wr.heap.size wr w' → w'.ownsRow 0 3 1 r ul.length (nats ul) → Calls Tryd.prog 84 #[.agg (setL S).toArray, r] w' fun e w'' => e = .returned (.bool true) ∧ Below wr.heap.size wr w'') := hide fun w' r h hr => by
            refine (hasAll_any S hS ul HUL6.out hul r 0 w' hr).mono ?_
            rintro e w'' ⟨h1, h2⟩
            rw [HSA.out, HLOK.out] at h1
            exact ⟨h1, h.trans (h2.mono h.size)⟩
          have hu := Tryd.underlying159
          have hi60 := setSize S hS
          have hl60 : (setL S).length = 60 := by rw [setL_length]; exact hS
          go_wp2_with fail
          go_region_held3 (fun w' => Below wr.heap.size wr w' ∧ w'.rangeAt (b6 + 1) 0 (setL S)) (first | assumption | (go_split_ands; (try dsimp only); refine ⟨?_, HRG9.out _ ?_⟩ <;> (repeat' (first | assumption | exact Below.refl _ _ | apply Below.drew)))) (first | (go_at_call 86; refine (HUP.out _ ?_).mono ?_; (repeat' (first | assumption | exact Below.refl _ _ | apply Below.drew)); rintro e w10 ⟨r, rfl, hrow, hb10⟩) | (go_at_call 84; refine (HHA.out _ _ ?_ ?_).mono ?_; (exact hb10); (exact hrow); rintro e w11 ⟨rfl, hb11⟩))
          have f1 := e1 w11 hb11
          clear e1 HRG9 HUP HHA hi60 hl60 hu
          go_wp2_with fail
          refine (HTA.out w11).mono ?_
          rintro e w12 ⟨v12, rfl, hown12, hb12⟩
          have hbq : Below wr.heap.size wr w12 := hb11.trans (hb12.mono hb11.size)
          have hg12 : wo.grownBy w12 (some (b6 + 1)) := grown_trans hgk (grown_below hbq)
          have hM12 : setRow w12 (b6 + 1) S := (hbq.block _ hMl).trans hMk
          have hz11 := hb11.size
          have hzk := hgk.size
          clear f1 hb11 hb12 hbq hcpk hMk hgk hbk
          obtain ⟨p12, c12, rfl, _⟩ := nats_open hown12
          go_wp2_with fail
          rename World => wz
          have hbwz := below_of_grown hbw4 hg12 (by omega)
          have hxsz := kept_block hxs4 hg12 (by omega)
          have hEmz := hEm4.kept hg12 (by simp; omega)
          have hrsz := kept_block hrs4 hg12 (by omega)
          have hmbz := hEmz.lt
          go_loopw [66] (fun i ws => ∃ k : Nat, k ≤ tl.length ∧ i = .int .i64 k ∧ Below wz.heap.size wz ws) (fun i _ => tl.length - (intOf i).toNat)
          case atStart => exact ⟨0, by omega, rfl, Below.refl _ _⟩
          case round =>
            obtain ⟨k, hk, rfl, hbz⟩ := hrel
            have hbwr : Below w.heap.size w wr := hbwz.trans (hbz.mono hbwz.size)
            by_cases hkt : k < tl.length
            · obtain ⟨p13, c13, hpe, hval13⟩ := nats_open (own_below hown12 hbz)
              simp only [Value.slice.injEq] at hpe
              obtain ⟨rfl, _, rfl⟩ := hpe
              obtain ⟨g13, rfl, ct⟩ := hval13 k hkt
              have htk := htb tl[k] (List.getElem_mem hkt)
              have HPM := hide (HPOK.out k hkt htk)
              rw [← HSA.out] at HPM
              have hlenT := (HL.out bks[tl[k]] (List.getElem_mem htk)).1
              have hx0 : ∀ w', Below wr.heap.size wr w' → w'.cell? ⟨w.heap.size, 0, none⟩ = some (.int .i64 (args : Nat)) := fun w' h => blk_cell ((h.block _ (Nat.lt_of_lt_of_le (lt_of_block hxsz) hbz.size)).trans ((hbz.block _ (lt_of_block hxsz)).trans hxsz)) 0 _ rfl
              have hx1 : ∀ w', Below wr.heap.size wr w' → w'.cell? ⟨w.heap.size, 1, none⟩ = some (.slice (some ⟨gb, 0, none⟩) bks.length c) := fun w' h => blk_cell ((h.block _ (Nat.lt_of_lt_of_le (lt_of_block hxsz) hbz.size)).trans ((hbz.block _ (lt_of_block hxsz)).trans hxsz)) 1 _ rfl
              have HRG9 : Hid (∀ w', Below wr.heap.size wr w' → w'.rangeAt (b6 + 1) 0 (setL S)) := hide fun w' h => setRow.range (w := w') ((h.block _ (Nat.lt_of_lt_of_le (lt_of_block hM12) hbz.size)).trans ((hbz.block _ (lt_of_block hM12)).trans hM12))
              have hlook : ∀ w', Below wr.heap.size wr w' → (Instr.lookup 128 (.map (some mb)) (.agg #[.int .i64 (j : Nat), .int .i64 (k : Nat)]) false).run Tryd.prog w' = .ok (.int .i64 ((Code.edges bks).places j k : Nat)) w' := fun w' h => ((hEmz.below hbz).below h).look j k (by omega) (by omega)
              have HCP : Hid (∀ w', Below wr.heap.size wr w' → Calls Tryd.prog 87 #[.agg #[.int .i64 (args : Nat), .slice (some ⟨gb, 0, none⟩) bks.length c], .int .i64 (tl[k] : Nat), .int .i64 ((Code.edges bks).places j k : Nat), .agg (setL S).toArray] w' fun e w'' => e = .returned (.tuple #[]) ∧ Below wr.heap.size wr w'') := hide fun w' h => by
                refine (phisMade_ok args bks (some ⟨gb, 0, none⟩) c base w' (HF.out.below (hbwr.trans (h.mono hbwr.size))) tl[k] htk hlenT _ S hS HPM.out).mono ?_
                rintro e w'' ⟨h1, h2⟩
                exact ⟨h1, h.trans (h2.mono h.size)⟩
              have hu := Tryd.underlying159
              have hi60 := setSize S hS
              have hl60 : (setL S).length = 60 := by rw [setL_length]; exact hS
              generalize (Code.edges bks).places j k = pl at *
              generalize tl[k] = tk at *
              clear hval13
              go_wp2_with fail
              go_region_held3 (fun w' => Below wr.heap.size wr w' ∧ w'.rangeAt (b6 + 1) 0 (setL S)) (first | assumption | (go_split_ands; (try dsimp only); refine ⟨?_, HRG9.out _ ?_⟩ <;> (repeat' (first | assumption | exact Below.refl _ _ | apply Below.drew)))) (first | (go_at_call 87; refine (HCP.out _ ?_).mono ?_; (repeat' (first | assumption | exact Below.refl _ _ | apply Below.drew)); rintro e w14 ⟨rfl, hb14⟩))
              go_wp2
              exact ⟨⟨k + 1, by omega, by go_num, hbz.trans (hb14.mono hbz.size)⟩, by simp [intOf]; omega⟩
            · go_wp2
              refine ⟨⟨j + 1, by omega, by go_num, (hbz.block _ (lt_of_block hrsz)).trans hrsz, hEmz.below hbz, (hbz.block _ (lt_of_block hxsz)).trans hxsz, hbwr⟩, by simp [intOf]; omega⟩
    · go_wp2
      go_end0
      exact ⟨rfl, hbs⟩
end Go.Proofs.YtedkjanogjglkaaDoor


namespace Go.Proofs.YtedkjanogjglkaaDoor
open Go.RowKit

namespace Code
/-- A function that is right, as the program looks at it. -/
structure Right (bks : List Blk) : Prop where
  most : bks.length ≤ 8
  some : 0 < bks.length
  small : Small bks
  once : Once noNumber bks
  goes : ∀ b ∈ bks, ∀ t ∈ tg b.last, 1 ≤ t ∧ t < bks.length
  reached : reachF 9 (tgs bks) (List.replicate bks.length false) 0 = List.replicate bks.length true
  phis : PhisOk bks
  ahead : ∀ A, A.length = bks.length → All60 A → Iter bks (startTo bks.length bks.length) A → AheadOk bks A
end Code

set_option maxHeartbeats 2000000 in
theorem requireRight_ok (args : Nat) (bks : List Code.Blk) (p : Option Addr) (c : Nat) (base : Nat) (w : World) (hf : RepBlks w base (.slice p bks.length c) bks) (hr : Code.Right bks) :
    Calls Tryd.prog 54 #[.agg #[.int .i64 (args : Nat), .slice p bks.length c]] w fun e w' => e = .returned (.tuple #[]) ∧ Below w.heap.size w w' := by
  have HF := hide hf
  have HR := hide hr
  clear hf hr
  go_enter Tryd.func54, Tryd.ntmps54
  go_wp2_with fail
  generalize hw0 : w.alloc _ = w0
  have hx0 : w0.heap[w.heap.size]? = some (.cells #[.int .i64 (args : Nat), .slice p bks.length c] 47) := by rw [← hw0]; exact heap_alloc_new w _
  have hb0 : Below w.heap.size w w0 := by rw [← hw0]; exact below_al (Below.refl _ _) _
  clear hw0
  refine (madeOnce_ok args bks p c base w0 (HF.out.below hb0) HR.out.most (fun b hb => ⟨(HR.out.small b hb).1, fun v hv => ((HR.out.small b hb).2.1 v hv).1⟩) HR.out.once).mono ?_
  rintro e w1 ⟨rfl, hb1⟩
  have hx1 := (hb1.block _ (lt_of_block hx0)).trans hx0
  have hbw1 : Below w.heap.size w w1 := hb0.trans (hb1.mono hb0.size)
  have c0 := blk_cell hx1 0 _ rfl
  have c1 := blk_cell hx1 1 _ rfl
  clear hx0 hb0 hb1
  go_wp2_with fail
  refine (targets_ok args bks p c base w1 (HF.out.below hbw1) HR.out.most HR.out.goes).mono ?_
  rintro e w2 ⟨rfl, hb2⟩
  have hx2 := (hb2.block _ (lt_of_block hx1)).trans hx1
  have hbw2 : Below w.heap.size w w2 := hbw1.trans (hb2.mono hbw1.size)
  clear c0 c1 hx1 hbw1 hb2
  have c0 := blk_cell hx2 0 _ rfl
  have c1 := blk_cell hx2 1 _ rfl
  go_wp2_with fail
  refine (reached_ok args bks p c base w2 (HF.out.below hbw2) HR.out.most HR.out.some (fun b hb t ht => (HR.out.goes b hb t ht).2) HR.out.reached).mono ?_
  rintro e w3 ⟨rfl, hb3⟩
  have hx3 := (hb3.block _ (lt_of_block hx2)).trans hx2
  have hbw3 : Below w.heap.size w w3 := hbw2.trans (hb3.mono hbw2.size)
  clear c0 c1 hx2 hbw2 hb3
  have c0 := blk_cell hx3 0 _ rfl
  have c1 := blk_cell hx3 1 _ rfl
  go_wp2_with fail
  refine (phis_ok args bks p c base w3 (HF.out.below hbw3) HR.out.most (fun b hb => (HR.out.small b hb).1) (fun b hb t ht => (HR.out.goes b hb t ht).2) HR.out.phis).mono ?_
  rintro e w4 ⟨rfl, hb4⟩
  have hx4 := (hb4.block _ (lt_of_block hx3)).trans hx3
  have hbw4 : Below w.heap.size w w4 := hbw3.trans (hb4.mono hbw3.size)
  clear c0 c1 hx3 hbw3 hb4
  have c0 := blk_cell hx4 0 _ rfl
  have c1 := blk_cell hx4 1 _ rfl
  go_wp2_with fail
  refine (madeAhead_ok args bks p c base w4 (HF.out.below hbw4) HR.out.most HR.out.some HR.out.small (fun b hb t ht => (HR.out.goes b hb t ht).2) HR.out.ahead).mono ?_
  rintro e w5 ⟨rfl, hb5⟩
  have hbw5 : Below w.heap.size w w5 := hbw4.trans (hb5.mono hbw4.size)
  go_wp2
  go_end0
  exact ⟨rfl, hbw5⟩

theorem Tab.pos {w : World} (h : Tab w) : 0 < w.heap.size := by
  have h1 := h 0 _ (opCells_at 0 (by omega)).1
  cases hh : w.heap[0]? with
  | none => simp [World.cell?, hh] at h1
  | some o => exact lt_of_block hh

theorem Tab.below {w w' : World} (h : Tab w) (hb : Below w.heap.size w w') : Tab w' := by
  intro j v hv
  rw [(bcell hb).1 0 _ h.pos]
  exact h j v hv

set_option maxHeartbeats 2000000 in
theorem read_ok (s : List UInt8) (f : Code.Fn) (w : World) (hs : s.length ≤ 1500) (ht : Tab w) (hf : Code.FnIs s f) (hr : Code.Right f.blocks) :
    Calls Tryd.prog 43 #[.string (bs s)] w fun e w' =>
      ∃ p c, e = .returned (.agg #[.int .i64 (f.args : Nat), .slice p f.blocks.length c]) ∧ RepBlks w' w.heap.size (.slice p f.blocks.length c) f.blocks ∧ Below w.heap.size w w' := by
  have e1 := bs_size s
  have hs' : ¬ (1500 : Int) < (s.length : Int) := by omega
  have HF := hide hf
  have HR := hide hr
  have HT := hide ht
  have hp := ht.pos
  clear hf hr ht
  go_enter Tryd.func43, Tryd.ntmps43
  go_wp2_with fail
  generalize hw0 : (w.alloc _).alloc _ = w0
  have hx0 : w0.heap[w.heap.size]? = some (.cells #[.int .i64 0, .slice none 0 0] 47) := by rw [← hw0]; exact stay_alloc (heap_alloc_new w _)
  have hr0 : RdF w0 (w.heap.size + 1) s 1 0 := by
    have h := heap_alloc_new (w.alloc (.cells #[.int .i64 0, .slice none 0 0] 47)) (.cells #[.string (bs s), .int .i64 1, .int .i64 1, .int .i64 0] 119)
    rw [alloc_size] at h
    rw [← hw0]; exact h
  have hb0 : Below w.heap.size w w0 := by rw [← hw0]; exact below_al (below_al (Below.refl _ _) _) _
  clear hw0
  refine (function_ok (w.heap.size + 1) s f 1 0 w0 hr0 (by omega) ⟨by omega, by omega⟩ (HT.out.below hb0) (by omega) HF.out).mono ?_
  rintro e w1 ⟨p, c, rfl, hrep1, hg1⟩
  have hbw1 : Below w.heap.size w w1 := below_of_grown hb0 hg1 (by omega)
  have hx1 := kept_block hx0 hg1 (by omega)
  have HREP : Hid (RepBlks w1 w.heap.size (.slice p f.blocks.length c) f.blocks) := hide (hrep1.mono (fun _ _ _ h => own_base h hb0.size) (fun _ _ _ h => own_base h hb0.size) (fun _ _ _ h => own_base h hb0.size))
  clear hrep1 hg1 hb0 hr0 hx0
  go_wp2_with fail
  generalize hw2 : w1.alloc _ = w2
  have hf2 : w2.heap[w1.heap.size]? = some (.cells #[.int .i64 (f.args : Nat), .slice p f.blocks.length c] 47) := by rw [← hw2]; exact heap_alloc_new w1 _
  have hb2 : Below w1.heap.size w1 w2 := by rw [← hw2]; exact below_al (Below.refl _ _) _
  have hx2 := (hb2.block _ (lt_of_block hx1)).trans hx1
  have hxl := lt_of_block hx1
  clear hw2 hx1
  refine (requireRight_ok f.args f.blocks p c w.heap.size w2 (HREP.out.below hb2) HR.out).mono ?_
  rintro e w3 ⟨rfl, hb3⟩
  have hf3 := (hb3.block _ (lt_of_block hf2)).trans hf2
  have hx3 := (hb3.block _ (lt_of_block hx2)).trans hx2
  have hb13 : Below w1.heap.size w1 w3 := hb2.trans (hb3.mono hb2.size)
  have hbw3 : Below w.heap.size w w3 := hbw1.trans (hb13.mono hbw1.size)
  have HREP3 := hide (HREP.out.below hb13)
  generalize hbf : w1.heap.size = b4 at *
  have c0 := blk_cell hf3 0 _ rfl
  have c1 := blk_cell hf3 1 _ rfl
  have d0 := blk_cell hx3 0 _ rfl
  have d1 := blk_cell hx3 1 _ rfl
  have f0 := blk_froz hx3 0
  have f1 := blk_froz hx3 1
  clear hf2 hx2 hb2 hb3 hb13 hbw1 HREP
  go_wp2
  refine bodyPost_ret (v := .agg #[.int .i64 (f.args : Nat), .slice p f.blocks.length c]) (by simp [results, Tryd.results43, go_sem, d0, d1]) rfl ?_
  refine ⟨p, c, rfl, ?_, below_set (below_set hbw3 (Nat.le_refl _) _ _) (Nat.le_refl _) _ _⟩
  have hh := HREP3.out.mono (fun _ _ _ h => own_set (u := .int .i64 (f.args : Nat)) (o := 0) h hx3 (by decide)) (fun _ _ _ h => own_set (o := 0) (u := .int .i64 (f.args : Nat)) h hx3 (by decide)) (fun _ _ _ h => own_set (o := 0) (u := .int .i64 (f.args : Nat)) h hx3 (by decide))
  exact hh.mono (fun _ _ _ h => own_set (u := .slice p f.blocks.length c) (o := 1) h (set_block hx3) (by decide)) (fun _ _ _ h => own_set (o := 1) (u := .slice p f.blocks.length c) h (set_block hx3) (by decide)) (fun _ _ _ h => own_set (o := 1) (u := .slice p f.blocks.length c) h (set_block hx3) (by decide))
end Go.Proofs.YtedkjanogjglkaaDoor


namespace Go.Proofs.YtedkjanogjglkaaDoor
open Go.RowKit

theorem RepBlks.set {w : World} {base b o : Nat} {v u : Value} {l : List Code.Blk} (h : RepBlks w base v l) {C : Array Value} {T : TypeId} {z : Nat × Nat} (hb : w.heap[b]? = some (.cells C T z)) (h1 : T ≠ 89) (h2 : T ≠ 93) (h3 : T ≠ 3) :
    RepBlks (w.setCell ⟨b, o, none⟩ u) base v l :=
  h.mono (fun _ _ _ h => own_set h hb h1) (fun _ _ _ h => own_set h hb h2) (fun _ _ _ h => own_set h hb h3)

theorem nilNe (w : World) : (binOp .neq 20 .nilIface .nilIface).run Tryd.prog w = .ok (.bool false) w := by kernel_rfl

theorem catch_idle (p : Addr) (w : World) :
    CallsD Tryd.prog 41 #[.pointer (some p)] .returning w fun e u' w' => e = .returned (.tuple #[]) ∧ u' = .returning ∧ w' = w := by
  refine callsD_of_wpS Tryd.func41 rfl fun c₀ cs hu => ?_
  apply wpS_seq
  apply wpS_region
  simp [wpOpsS, go_sem, recoverD, hu, Tryd.ntmps41, Exit.thenS]
  apply wpS_seq
  apply wpS_region
  simp [wpOpsS, go_sem, nilNe, Exit.thenS]
  refine wpS_cond (t := false) (by simp [Act.eval, Array.replicate]) ?_
  simp only [Bool.false_eq_true, if_false]
  refine wpS_of_wp (wp_skip ?_)
  cases c₀
  simp_all [bodyPostS, results, Tryd.results41]

set_option maxHeartbeats 2000000 in
theorem irRead_ok (s : List UInt8) (f : Code.Fn) (w : World) (hs : s.length ≤ 1500) (ht : Tab w) (hf : Code.FnIs s f) (hr : Code.Right f.blocks) :
    Calls Tryd.prog 22 #[.string (bs s)] w fun e w' =>
      ∃ p c, e = .returned (.tuple #[.agg #[.int .i64 (f.args : Nat), .slice p f.blocks.length c], .int .i64 0]) ∧ RepBlks w' w.heap.size (.slice p f.blocks.length c) f.blocks ∧ Below w.heap.size w w' := by
  have hmf : ∀ (fn : Fn) (first cap : Array Value) (w : World), (Instr.makeFunc fn first cap).run Tryd.prog w = .ok (.func fn first cap) w := fun _ _ _ _ => rfl
  have HF := hide hf
  have HR := hide hr
  have HT := hide ht
  have hp := ht.pos
  clear hf hr ht
  go_enter_defers Tryd.func22, Tryd.ntmps22
  go_wp2_with fail
  generalize hw0 : (w.alloc _).alloc _ = w0
  have hx0 : w0.heap[w.heap.size]? = some (.cells #[.int .i64 0, .slice none 0 0] 47) := by rw [← hw0]; exact stay_alloc (heap_alloc_new w _)
  have hy0 : w0.heap[w.heap.size + 1]? = some (.cells #[.int .i64 0] 26) := by
    have h := heap_alloc_new (w.alloc (.cells #[.int .i64 0, .slice none 0 0] 47)) (.cells #[.int .i64 0] 26)
    rw [alloc_size] at h
    rw [← hw0]; exact h
  have hb0 : Below w.heap.size w w0 := by rw [← hw0]; exact below_al (below_al (Below.refl _ _) _) _
  clear hw0
  refine (read_ok s f w0 hs (HT.out.below hb0) HF.out HR.out).mono ?_
  rintro e w1 ⟨p, c, rfl, hrep, hb1⟩
  have hx1 := (hb1.block _ (lt_of_block hx0)).trans hx0
  have hy1 := (hb1.block _ (lt_of_block hy0)).trans hy0
  have hbw1 : Below w.heap.size w w1 := hb0.trans (hb1.mono hb0.size)
  have HREP : Hid (RepBlks w1 w.heap.size (.slice p f.blocks.length c) f.blocks) := hide (hrep.mono (fun _ _ _ h => own_base h hb0.size) (fun _ _ _ h => own_base h hb0.size) (fun _ _ _ h => own_base h hb0.size))
  have d0 := blk_cell hx1 0 _ rfl
  have d1 := blk_cell hx1 1 _ rfl
  have f0 := blk_froz hx1 0
  have f1 := blk_froz hx1 1
  have e0 := blk_cell hy1 0 _ rfl
  have ef := blk_froz hy1 0
  clear hx0 hy0 hb0 hb1 hrep
  go_wp2
  refine leaves_cons (f := 41) (args := #[.pointer (some ⟨w.heap.size + 1, 0, none⟩)]) (by simp) (by simp [go_sem]) ?_
  refine (catch_idle ⟨w.heap.size + 1, 0, none⟩ _).mono ?_
  rintro e u' w'' ⟨rfl, rfl, rfl⟩
  refine ⟨_, by simp [results, Tryd.results22, go_sem, d0, d1, e0]; rfl, ?_⟩
  refine ⟨p, c, rfl, ?_, below_set (below_set (below_set hbw1 (Nat.le_refl _) _ _) (Nat.le_refl _) _ _) (Nat.le_succ _) _ _⟩
  have hne : w.heap.size + 1 ≠ w.heap.size := by omega
  exact ((HREP.out.set hx1 (by decide) (by decide) (by decide)).set (set_block hx1) (by decide) (by decide) (by decide)).set (stay_set (stay_set hy1 hne) hne) (by decide) (by decide) (by decide)
end Go.Proofs.YtedkjanogjglkaaDoor


namespace Go.Proofs.YtedkjanogjglkaaDoor
open Go.RowKit

namespace Code
def truth (b : Bool) : Int := if b then 1 else 0

/-- What an operation comes to of two numbers; none, if it traps. -/
def reckon : Nat → Int → Int → Option Int
  | 0, a, b => some (wrap32 (a + b))
  | 1, a, b => some (wrap32 (a - b))
  | 2, a, b => some (wrap32 (a * b))
  | 3, a, b => if b = 0 then none else some (wrap32 (a.tdiv b))
  | 4, a, b => some (bits .and .i32 a b)
  | 5, a, b => some (bits .or .i32 a b)
  | 6, a, b => some (bits .xor .i32 a b)
  | 7, a, b => some (wrap32 (a * 2 ^ (b % 32).toNat))
  | 8, a, b => some (a / 2 ^ (b % 32).toNat)
  | 9, a, b => some (truth (a == b))
  | 10, a, b => some (truth (decide (a < b)))
  | 11, a, _ => some (wrap32 (-a))
  | _, a, _ => some (bits .xor .i32 (-1) a)
end Code

/-- The lowest five bits of a number are its rest by 32. -/
theorem u32_and31 (n : Int) : bits .and .u32 n 31 = n % 32 := by
  have low : ∀ m : Nat, m &&& 31 = m % 32 := fun m => Nat.and_two_pow_sub_one_eq_mod m 5
  have said : bits .and .u32 n 31 = IntKind.u32.wrap (((BitVec.ofInt 32 n).toNat &&& 31 : Nat) : Int) := rfl
  rw [said, low, BitVec.toNat_ofInt]
  have : IntKind.u32.wrap ((((n % ((2 ^ 32 : Nat) : Int)).toNat % 32 : Nat)) : Int) = ((((n % ((2 ^ 32 : Nat) : Int)).toNat % 32 : Nat)) : Int) := by
    show (((((n % ((2 ^ 32 : Nat) : Int)).toNat % 32 : Nat)) : Int)) % 4294967296 = _
    omega
  rw [this]
  omega

theorem ret_ib32 {v v' : Int} {b : Bool} (h : v = v') : Ending.returned (.tuple #[.int .i32 v, .bool b]) = .returned (.tuple #[.int .i32 v', .bool b]) := by rw [h]

set_option maxRecDepth 100000 in
set_option maxHeartbeats 1000000 in
theorem op0 (a b : Int) (w : World) (_ha : -2147483648 ≤ a) (_ha' : a < 2147483648) (_hb : -2147483648 ≤ b) (_hb' : b < 2147483648) :
    Calls Tryd.prog 89 #[.int .i64 0, .int .i32 a, .int .i32 b] w fun e w' => e = .returned (.tuple #[.int .i32 (wrap32 (a + b)), .bool true]) ∧ w' = w := by
  go_enter Tryd.func89, Tryd.ntmps89
  go_wp2
  go_ret2
  exact ⟨rfl, rfl⟩

set_option maxRecDepth 100000 in
set_option maxHeartbeats 1000000 in
theorem op1 (a b : Int) (w : World) (_ha : -2147483648 ≤ a) (_ha' : a < 2147483648) (_hb : -2147483648 ≤ b) (_hb' : b < 2147483648) :
    Calls Tryd.prog 89 #[.int .i64 1, .int .i32 a, .int .i32 b] w fun e w' => e = .returned (.tuple #[.int .i32 (wrap32 (a - b)), .bool true]) ∧ w' = w := by
  go_enter Tryd.func89, Tryd.ntmps89
  go_wp2
  go_ret2
  exact ⟨rfl, rfl⟩

set_option maxRecDepth 100000 in
set_option maxHeartbeats 1000000 in
theorem op2 (a b : Int) (w : World) (_ha : -2147483648 ≤ a) (_ha' : a < 2147483648) (_hb : -2147483648 ≤ b) (_hb' : b < 2147483648) :
    Calls Tryd.prog 89 #[.int .i64 2, .int .i32 a, .int .i32 b] w fun e w' => e = .returned (.tuple #[.int .i32 (wrap32 (a * b)), .bool true]) ∧ w' = w := by
  go_enter Tryd.func89, Tryd.ntmps89
  go_wp2
  go_ret2
  exact ⟨rfl, rfl⟩

set_option maxRecDepth 100000 in
set_option maxHeartbeats 1000000 in
theorem op3 (a b : Int) (w : World) (_ha : -2147483648 ≤ a) (_ha' : a < 2147483648) (_hb : -2147483648 ≤ b) (_hb' : b < 2147483648) (hz : ¬ b = 0) :
    Calls Tryd.prog 89 #[.int .i64 3, .int .i32 a, .int .i32 b] w fun e w' => e = .returned (.tuple #[.int .i32 (wrap32 (a.tdiv b)), .bool true]) ∧ w' = w := by
  go_enter Tryd.func89, Tryd.ntmps89
  go_wp2
  go_ret2
  exact ⟨rfl, rfl⟩

set_option maxRecDepth 100000 in
set_option maxHeartbeats 1000000 in
theorem op3z (a : Int) (w : World) :
    Calls Tryd.prog 89 #[.int .i64 3, .int .i32 a, .int .i32 0] w fun e w' => e = .returned (.tuple #[.int .i32 0, .bool false]) ∧ w' = w := by
  go_enter Tryd.func89, Tryd.ntmps89
  go_wp2
  go_ret2
  exact ⟨rfl, rfl⟩

set_option maxRecDepth 100000 in
set_option maxHeartbeats 1000000 in
theorem op4 (a b : Int) (w : World) (_ha : -2147483648 ≤ a) (_ha' : a < 2147483648) (_hb : -2147483648 ≤ b) (_hb' : b < 2147483648) :
    Calls Tryd.prog 89 #[.int .i64 4, .int .i32 a, .int .i32 b] w fun e w' => e = .returned (.tuple #[.int .i32 (bits .and .i32 a b), .bool true]) ∧ w' = w := by
  go_enter Tryd.func89, Tryd.ntmps89
  go_wp2
  go_ret2
  exact ⟨rfl, rfl⟩

set_option maxRecDepth 100000 in
set_option maxHeartbeats 1000000 in
theorem op5 (a b : Int) (w : World) (_ha : -2147483648 ≤ a) (_ha' : a < 2147483648) (_hb : -2147483648 ≤ b) (_hb' : b < 2147483648) :
    Calls Tryd.prog 89 #[.int .i64 5, .int .i32 a, .int .i32 b] w fun e w' => e = .returned (.tuple #[.int .i32 (bits .or .i32 a b), .bool true]) ∧ w' = w := by
  go_enter Tryd.func89, Tryd.ntmps89
  go_wp2
  go_ret2
  exact ⟨rfl, rfl⟩

set_option maxRecDepth 100000 in
set_option maxHeartbeats 1000000 in
theorem op6 (a b : Int) (w : World) (_ha : -2147483648 ≤ a) (_ha' : a < 2147483648) (_hb : -2147483648 ≤ b) (_hb' : b < 2147483648) :
    Calls Tryd.prog 89 #[.int .i64 6, .int .i32 a, .int .i32 b] w fun e w' => e = .returned (.tuple #[.int .i32 (bits .xor .i32 a b), .bool true]) ∧ w' = w := by
  go_enter Tryd.func89, Tryd.ntmps89
  go_wp2
  go_ret2
  exact ⟨rfl, rfl⟩

set_option maxRecDepth 100000 in
set_option maxHeartbeats 1000000 in
theorem op7 (a b : Int) (w : World) (_ha : -2147483648 ≤ a) (_ha' : a < 2147483648) (_hb : -2147483648 ≤ b) (_hb' : b < 2147483648) :
    Calls Tryd.prog 89 #[.int .i64 7, .int .i32 a, .int .i32 b] w fun e w' => e = .returned (.tuple #[.int .i32 (wrap32 (a * 2 ^ (b % 32).toNat)), .bool true]) ∧ w' = w := by
  have h31 := u32_and31 (b % 4294967296)
  rw [show b % 4294967296 % 32 = b % 32 by omega] at h31
  obtain ⟨c, hc⟩ : ∃ c : Nat, b % 32 = (c : Int) := ⟨(b % 32).toNat, by omega⟩
  have hc2 : c < 32 := by omega
  rw [hc] at h31 ⊢
  rw [Int.toNat_natCast]
  clear hc
  go_enter Tryd.func89, Tryd.ntmps89
  go_wp2
  go_ret2
  exact ⟨rfl, rfl⟩

set_option maxRecDepth 100000 in
set_option maxHeartbeats 1000000 in
theorem op8 (a b : Int) (w : World) (_ha : -2147483648 ≤ a) (_ha' : a < 2147483648) (_hb : -2147483648 ≤ b) (_hb' : b < 2147483648) :
    Calls Tryd.prog 89 #[.int .i64 8, .int .i32 a, .int .i32 b] w fun e w' => e = .returned (.tuple #[.int .i32 (a / 2 ^ (b % 32).toNat), .bool true]) ∧ w' = w := by
  have h31 := u32_and31 (b % 4294967296)
  rw [show b % 4294967296 % 32 = b % 32 by omega] at h31
  obtain ⟨c, hc⟩ : ∃ c : Nat, b % 32 = (c : Int) := ⟨(b % 32).toNat, by omega⟩
  have hc2 : c < 32 := by omega
  rw [hc] at h31 ⊢
  rw [Int.toNat_natCast]
  clear hc
  go_enter Tryd.func89, Tryd.ntmps89
  go_wp2
  go_ret2
  exact ⟨rfl, rfl⟩

set_option maxRecDepth 100000 in
set_option maxHeartbeats 1000000 in
theorem op9 (a b : Int) (w : World) (_ha : -2147483648 ≤ a) (_ha' : a < 2147483648) (_hb : -2147483648 ≤ b) (_hb' : b < 2147483648) :
    Calls Tryd.prog 89 #[.int .i64 9, .int .i32 a, .int .i32 b] w fun e w' => e = .returned (.tuple #[.int .i32 (Code.truth (a == b)), .bool true]) ∧ w' = w := by
  cases hq : (a == b)
  all_goals
    go_enter Tryd.func89, Tryd.ntmps89
    go_wp2
    go_ret2
    exact ⟨by simp [Code.truth], rfl⟩

set_option maxRecDepth 100000 in
set_option maxHeartbeats 1000000 in
theorem op10 (a b : Int) (w : World) (_ha : -2147483648 ≤ a) (_ha' : a < 2147483648) (_hb : -2147483648 ≤ b) (_hb' : b < 2147483648) :
    Calls Tryd.prog 89 #[.int .i64 10, .int .i32 a, .int .i32 b] w fun e w' => e = .returned (.tuple #[.int .i32 (Code.truth (decide (a < b))), .bool true]) ∧ w' = w := by
  by_cases hq : a < b
  all_goals
    go_enter Tryd.func89, Tryd.ntmps89
    go_wp2
    go_ret2
    exact ⟨by simp [Code.truth, hq], rfl⟩

set_option maxRecDepth 100000 in
set_option maxHeartbeats 1000000 in
theorem op11 (a b : Int) (w : World) (_ha : -2147483648 ≤ a) (_ha' : a < 2147483648) (_hb : -2147483648 ≤ b) (_hb' : b < 2147483648) :
    Calls Tryd.prog 89 #[.int .i64 11, .int .i32 a, .int .i32 b] w fun e w' => e = .returned (.tuple #[.int .i32 (wrap32 (-a)), .bool true]) ∧ w' = w := by
  go_enter Tryd.func89, Tryd.ntmps89
  go_wp2
  go_ret2
  exact ⟨rfl, rfl⟩

set_option maxRecDepth 100000 in
set_option maxHeartbeats 1000000 in
theorem op12 (a b : Int) (w : World) (_ha : -2147483648 ≤ a) (_ha' : a < 2147483648) (_hb : -2147483648 ≤ b) (_hb' : b < 2147483648) :
    Calls Tryd.prog 89 #[.int .i64 12, .int .i32 a, .int .i32 b] w fun e w' => e = .returned (.tuple #[.int .i32 (bits .xor .i32 (-1) a), .bool true]) ∧ w' = w := by
  go_enter Tryd.func89, Tryd.ntmps89
  go_wp2
  go_ret2
  exact ⟨rfl, rfl⟩

theorem reckon_any (k : Nat) (hk : k < 13) (a b : Int) (w : World) (ha : -2147483648 ≤ a) (ha' : a < 2147483648) (hb : -2147483648 ≤ b) (hb' : b < 2147483648) :
    Calls Tryd.prog 89 #[.int .i64 (k : Nat), .int .i32 a, .int .i32 b] w fun e w' =>
      ((∃ n, Code.reckon k a b = some n ∧ e = .returned (.tuple #[.int .i32 n, .bool true])) ∨ (Code.reckon k a b = none ∧ e = .returned (.tuple #[.int .i32 0, .bool false]))) ∧ w' = w := by
  match k, hk with
  | 0, _ => exact (op0 a b w ha ha' hb hb').mono fun e w' h => ⟨Or.inl ⟨_, rfl, h.1⟩, h.2⟩
  | 1, _ => exact (op1 a b w ha ha' hb hb').mono fun e w' h => ⟨Or.inl ⟨_, rfl, h.1⟩, h.2⟩
  | 2, _ => exact (op2 a b w ha ha' hb hb').mono fun e w' h => ⟨Or.inl ⟨_, rfl, h.1⟩, h.2⟩
  | 4, _ => exact (op4 a b w ha ha' hb hb').mono fun e w' h => ⟨Or.inl ⟨_, rfl, h.1⟩, h.2⟩
  | 5, _ => exact (op5 a b w ha ha' hb hb').mono fun e w' h => ⟨Or.inl ⟨_, rfl, h.1⟩, h.2⟩
  | 6, _ => exact (op6 a b w ha ha' hb hb').mono fun e w' h => ⟨Or.inl ⟨_, rfl, h.1⟩, h.2⟩
  | 7, _ => exact (op7 a b w ha ha' hb hb').mono fun e w' h => ⟨Or.inl ⟨_, rfl, h.1⟩, h.2⟩
  | 8, _ => exact (op8 a b w ha ha' hb hb').mono fun e w' h => ⟨Or.inl ⟨_, rfl, h.1⟩, h.2⟩
  | 9, _ => exact (op9 a b w ha ha' hb hb').mono fun e w' h => ⟨Or.inl ⟨_, rfl, h.1⟩, h.2⟩
  | 10, _ => exact (op10 a b w ha ha' hb hb').mono fun e w' h => ⟨Or.inl ⟨_, rfl, h.1⟩, h.2⟩
  | 11, _ => exact (op11 a b w ha ha' hb hb').mono fun e w' h => ⟨Or.inl ⟨_, rfl, h.1⟩, h.2⟩
  | 12, _ => exact (op12 a b w ha ha' hb hb').mono fun e w' h => ⟨Or.inl ⟨_, rfl, h.1⟩, h.2⟩
  | 3, _ =>
    by_cases hz : b = 0
    · subst hz
      exact (op3z a w).mono fun e w' h => ⟨Or.inr ⟨rfl, h.1⟩, h.2⟩
    · exact (op3 a b w ha ha' hb hb' hz).mono fun e w' h => ⟨Or.inl ⟨_, by simp [Code.reckon, hz], h.1⟩, h.2⟩
end Go.Proofs.YtedkjanogjglkaaDoor


namespace Go.Proofs.YtedkjanogjglkaaDoor
open Go.RowKit

/-- The cells of numbers of 32 bits. -/
def i32s (l : List Int) : List Value := l.map fun n => .int .i32 n

theorem i32s_length (l : List Int) : (i32s l).length = l.length := by simp [i32s]

/-- A machine's cells: its arguments, its values, its steps, its fuel. -/
def machL (av : Value) (V : List Int) (st fu : Nat) : List Value := av :: (i32s V ++ [.int .i64 (st : Nat), .int .i64 (fu : Nat)])

def Mach (w : World) (mb : Nat) (av : Value) (V : List Int) (st fu : Nat) : Prop := w.heap[mb]? = some (.cells (machL av V st fu).toArray 104)

theorem Mach.args {w : World} {mb : Nat} {av : Value} {V : List Int} {st fu : Nat} (h : Mach w mb av V st fu) : w.cell? ⟨mb, 0, none⟩ = some av := blk_cell h 0 _ (by simp [machL])

theorem Mach.val {w : World} {mb : Nat} {av : Value} {V : List Int} {st fu : Nat} (h : Mach w mb av V st fu) (x : Nat) (hx : x < V.length) : w.cell? ⟨mb, 1 + x, none⟩ = some (.int .i32 V[x]) := by
  refine blk_cell h _ _ ?_
  rw [Nat.add_comm, List.getElem?_toArray, machL, List.getElem?_cons_succ, List.getElem?_append_left (by rw [i32s_length]; exact hx)]
  simp [i32s, hx]

theorem Mach.steps {w : World} {mb : Nat} {av : Value} {V : List Int} {st fu : Nat} (h : Mach w mb av V st fu) (hV : V.length = 60) : w.cell? ⟨mb, 61, none⟩ = some (.int .i64 (st : Nat)) := by
  refine blk_cell h _ _ ?_
  rw [List.getElem?_toArray, machL, List.getElem?_cons_succ, List.getElem?_append_right (by rw [i32s_length]; omega), i32s_length, hV]
  rfl

theorem Mach.fuel {w : World} {mb : Nat} {av : Value} {V : List Int} {st fu : Nat} (h : Mach w mb av V st fu) (hV : V.length = 60) : w.cell? ⟨mb, 62, none⟩ = some (.int .i64 (fu : Nat)) := by
  refine blk_cell h _ _ ?_
  rw [List.getElem?_toArray, machL, List.getElem?_cons_succ, List.getElem?_append_right (by rw [i32s_length]; omega), i32s_length, hV]
  rfl

theorem Mach.setVal {w : World} {mb : Nat} {av : Value} {V : List Int} {st fu : Nat} (h : Mach w mb av V st fu) (x : Nat) (hx : x < V.length) (n : Int) : Mach (w.setCell ⟨mb, 1 + x, none⟩ (.int .i32 n)) mb av (V.set x n) st fu := by
  unfold Mach at *
  rw [set_block h, List.setIfInBounds_toArray]
  congr 3
  rw [Nat.add_comm, machL, machL, List.set_cons_succ, List.set_append_left _ _ (by rw [i32s_length]; exact hx)]
  simp [i32s, List.map_set]

theorem Mach.setSteps {w : World} {mb : Nat} {av : Value} {V : List Int} {st fu : Nat} (h : Mach w mb av V st fu) (hV : V.length = 60) (st' : Nat) : Mach (w.setCell ⟨mb, 61, none⟩ (.int .i64 (st' : Nat))) mb av V st' fu := by
  unfold Mach at *
  rw [set_block h, List.setIfInBounds_toArray]
  congr 3
  rw [machL, machL, List.set_cons_succ, List.set_append_right _ _ (by rw [i32s_length]; omega), i32s_length, hV]
  rfl

theorem grownN {w w' : World} {r : Option Nat} (h : w.grownBy w' r) (n : Nat) : w.grownBy (w'.drewN n) r := ⟨h.os, h.tape, h.output, h.size, h.block⟩

set_option maxHeartbeats 1000000 in
theorem step_any (mb : Nat) (av : Value) (V : List Int) (st fu : Nat) (w : World) (hm : Mach w mb av V st fu) (hV : V.length = 60) (hf : fu ≤ 100000) :
    Calls Tryd.prog 60 #[.pointer (some ⟨mb, 0, none⟩)] w fun e w' =>
      w.grownBy w' (some mb) ∧ ((st < fu ∧ e = .returned (.bool true) ∧ Mach w' mb av V (st + 1) fu) ∨ (fu ≤ st ∧ e = .returned (.bool false) ∧ Mach w' mb av V st fu)) := by
  have c61 := hm.steps hV
  have c62 := hm.fuel hV
  have fz := blk_froz hm 61
  by_cases hlt : st < fu
  · have h1 : ¬ (fu : Int) ≤ (st : Int) := by omega
    go_enter Tryd.func60, Tryd.ntmps60
    go_wp2_with fail
    go_quiet (fail)
    go_wp2
    go_ret
    refine ⟨grown_trans (grownN (grown_refl _ _) _) (grown_set _ _ _ _), Or.inl ⟨hlt, rfl, ?_⟩⟩
    have h := Mach.setSteps (w := w.drewN nq) hm hV (st + 1)
    rw [show ((st + 1 : Nat) : Int) = (st : Int) + 1 by omega] at h
    exact h
  · have h1 : (fu : Int) ≤ (st : Int) := by omega
    go_enter Tryd.func60, Tryd.ntmps60
    go_wp2_with fail
    go_quiet (fail)
    go_wp2
    go_ret
    exact ⟨grownN (grown_refl _ _) _, Or.inr ⟨by omega, rfl, hm⟩⟩

/-- All are numbers of 32 bits. -/
def In32 (V : List Int) : Prop := ∀ x ∈ V, -2147483648 ≤ x ∧ x < 2147483648

theorem In32.get {V : List Int} (h : In32 V) (x : Nat) (hx : x < V.length) : -2147483648 ≤ V[x] ∧ V[x] < 2147483648 := h _ (List.getElem_mem hx)

set_option maxRecDepth 100000 in
set_option maxHeartbeats 2000000 in
theorem mreckon_any (mb : Nat) (av : Value) (V : List Int) (st fu : Nat) (k : Nat) (of : List Nat) (v : Value) (base : Nat) (w : World) (hm : Mach w mb av V st fu) (hV : V.length = 60) (h32 : In32 V) (hk : k < 13) (ho : w.ownsRow base 3 1 v of.length (nats of)) (hl : 0 < of.length) (hl2 : of.length ≤ 100000) (h60 : ∀ x ∈ of, x < 60) :
    Calls Tryd.prog 74 #[.pointer (some ⟨mb, 0, none⟩), .agg #[.int .i64 (k : Nat), v]] w fun e w' =>
      Below w.heap.size w w' ∧ ((∃ n, Code.reckon k (V.getD (of.getD 0 0) 0) (V.getD (of.getD (of.length - 1) 0) 0) = some n ∧ e = .returned (.tuple #[.int .i32 n, .bool true])) ∨
        (Code.reckon k (V.getD (of.getD 0 0) 0) (V.getD (of.getD (of.length - 1) 0) 0) = none ∧ e = .returned (.tuple #[.int .i32 0, .bool false]))) := by
  obtain ⟨p, c, rfl, hval⟩ := nats_open ho
  obtain ⟨g, rfl, o0⟩ := hval 0 hl
  obtain ⟨g', hge, o1⟩ := hval (of.length - 1) (by omega)
  simp only [Option.some.injEq, Addr.mk.injEq, and_true] at hge
  subst hge
  have q0 : of[0] < 60 := h60 _ (List.getElem_mem hl)
  have hl1 : of.length - 1 < of.length := by omega
  have q1 : of[of.length - 1] < 60 := h60 _ (List.getElem_mem hl1)
  have m0 := hm.val of[0] (by omega)
  have m1 := hm.val of[of.length - 1] (by omega)
  have HR := hide (reckon_any k hk V[of[0]] V[of[of.length - 1]] · (h32.get _ _).1 (h32.get _ _).2 (h32.get _ _).1 (h32.get _ _).2)
  have e0 : V.getD (of.getD 0 0) 0 = V[of[0]] := by rw [List.getD_eq_getElem?_getD, List.getD_eq_getElem?_getD, List.getElem?_eq_getElem hl, Option.getD_some, List.getElem?_eq_getElem (by omega), Option.getD_some]
  have e1 : V.getD (of.getD (of.length - 1) 0) 0 = V[of[of.length - 1]] := by rw [List.getD_eq_getElem?_getD, List.getD_eq_getElem?_getD, List.getElem?_eq_getElem hl1, Option.getD_some, List.getElem?_eq_getElem (by omega), Option.getD_some]
  rw [e0, e1]
  clear e0 e1 hval
  have hgl : g < w.heap.size := by
    cases hh : w.heap[g]? with
    | none => simp [World.cell?, hh] at o0
    | some o => exact lt_of_block hh
  have hml := lt_of_block hm
  have q0' : ((of[0] : Nat) : Int) < 60 := by omega
  have q1' : ((of[of.length - 1] : Nat) : Int) < 60 := by omega
  generalize V[of[0]] = a at *
  generalize V[of[of.length - 1]] = b at *
  generalize of[0] = x0 at *
  generalize of[of.length - 1] = x1 at *
  generalize of.length = n at *
  have hn1 : (0 : Int) < (n : Int) := by omega
  have hn2 : (n : Int) - 1 < (n : Int) := by omega
  have hn3 : (0 : Int) ≤ (n : Int) - 1 := by omega
  have hn4 : ((n : Int) - 1).toNat = n - 1 := by omega
  go_enter Tryd.func74, Tryd.ntmps74
  go_wp2_with fail
  go_quiet (fail)
  go_wp2_with fail
  go_quiet (fail)
  go_wp2_with fail
  generalize hw1 : World.drewN _ _ = w1
  have hb1 : Below w.heap.size w w1 := by rw [← hw1]; exact belowN (below_al (Below.refl _ _) _) _
  clear hw1
  refine (HR.out w1).mono ?_
  rintro e w1 ⟨⟨r, hc, rfl⟩ | ⟨hc, rfl⟩, rfl⟩
  · have HC := hide hc
    clear hc
    go_wp2
    go_ret2
    exact ⟨hb1, Or.inl ⟨r, HC.out, rfl⟩⟩
  · have HC := hide hc
    clear hc
    go_wp2
    go_ret2
    exact ⟨hb1, Or.inr ⟨HC.out, rfl⟩⟩
end Go.Proofs.YtedkjanogjglkaaDoor
