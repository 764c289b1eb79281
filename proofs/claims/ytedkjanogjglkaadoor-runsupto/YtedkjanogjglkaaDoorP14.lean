/-
  Walks: code.Function.requirePhis and requirePhisMade, where they do not hold.
  Walk: code.Function.requireMadeAhead, where it does not hold.
  Walks: code.Function.requireRight and code.Read, where the function is not right, or the text none.
-/
import Derived.Test.YtedkjanogjglkaaDoorP13
import Derived.Test.YtedkjanogjglkaaDoorP07
import Derived.Test.YtedkjanogjglkaaDoorP10

namespace Go.Proofs.YtedkjanogjglkaaDoor
open Go.RowKit

set_option maxRecDepth 100000 in
set_option maxHeartbeats 4000000 in
theorem phis_no (args : Nat) (bks : List Code.Blk) (p : Option Addr) (c : Nat) (base : Nat) (w : World) (hf : RepBlks w base (.slice p bks.length c) bks) (hn : bks.length ≤ 8) (hl : ∀ b ∈ bks, b.values.length ≤ 100000) (ht : ∀ b ∈ bks, ∀ t ∈ Code.tg b.last, t < bks.length) (hp : ¬ Code.PhisOk bks) :
    Calls Tryd.prog 71 #[.agg #[.int .i64 (args : Nat), .slice p bks.length c]] w fun e w' => FailsB w e w' := by
  have HF := hide hf
  have HTG := hide ht
  have HL := hide hl
  have HP := hide hp
  clear ht hl hp
  go_enter Tryd.func71, Tryd.ntmps71
  go_wp2_with fail
  generalize hw0 : w.alloc _ = w0
  have hx0 : w0.heap[w.heap.size]? = some (.cells #[.int .i64 (args : Nat), .slice p bks.length c] 47) := by rw [← hw0]; exact heap_alloc_new w _
  have hb0 : Below w.heap.size w w0 := by rw [← hw0]; exact below_al (Below.refl _ _) _
  clear hw0
  refine (edges_any args bks p c base w0 (HF.out.below hb0) hn HTG.out).mono ?_
  rintro e w1 ⟨mb, g, n, rfl, hmb, hgm, hE, hnr, hb1⟩
  have hx1 := (hb1.block _ (lt_of_block hx0)).trans hx0
  have hbw1 : Below w.heap.size w w1 := hb0.trans (hb1.mono hb0.size)
  have hz0 := hb0.size
  have hcn := Code.edges_length bks
  have HP' : Hid (¬ ∀ j (h : j < bks.length), ∀ v ∈ bks[j].values, ∀ of, v.thing = .phi of → j ≠ 0 ∧ of.length = (Code.edges bks).counts.getD j 0) := HP
  generalize (Code.edges bks).counts = C at *
  have hcx := blk_cell hx1 1 _ rfl
  clear hE hx0 hb0 hb1 HP
  obtain ⟨p', c', hpe, hblk⟩ := hf.open
  simp only [Value.slice.injEq] at hpe
  obtain ⟨rfl, _, rfl⟩ := hpe
  have HBLK := hide hblk
  clear hblk hf
  go_wp2_with fail
  clear hcx
  go_loopw [18] (fun i wr => ∃ j : Nat, j ≤ bks.length ∧ i = .int .i64 j ∧ natRow wr g C ∧ wr.heap[w.heap.size]? = some (.cells #[.int .i64 (args : Nat), .slice p bks.length c] 47) ∧ Below w.heap.size w wr ∧ Hid (∀ j' (h : j' < bks.length), j' < j → ∀ v ∈ bks[j'].values, ∀ of, v.thing = .phi of → j' ≠ 0 ∧ of.length = C.getD j' 0)) (fun i _ => bks.length - (intOf i).toNat)
  case atStart => exact ⟨0, by omega, rfl, hnr, hx1, hbw1, hide fun j' h h' => by omega⟩
  case round =>
    obtain ⟨j, hj, rfl, hrw, hxr, hbw, hsp⟩ := hrel
    clear hnr hbw1 hx1
    have hz := hbw.size
    have hgl := lt_of_block hrw
    by_cases hlt : j < bks.length
    · obtain ⟨gb, vs, rfl, hg, c0, c1, hvs⟩ := HBLK.out j hlt
      have hlen := HL.out bks[j] (List.getElem_mem hlt)
      have HNJ : Hid ((∀ v ∈ bks[j].values, ∀ of, v.thing = .phi of → j ≠ 0 ∧ of.length = C.getD j 0) → ∀ j' (h : j' < bks.length), j' < j + 1 → ∀ v ∈ bks[j'].values, ∀ of, v.thing = .phi of → j' ≠ 0 ∧ of.length = C.getD j' 0) := hide fun e j' h h' => by
        by_cases hq : j' < j
        · exact hsp.out j' h hq
        · obtain rfl : j' = j := by omega
          exact e
      have hgd : C.getD j 0 = C[j]'(by omega) := by rw [List.getD_eq_getElem?_getD, List.getElem?_eq_getElem (by omega)]; rfl
      obtain ⟨pv, cv, rfl, hval⟩ := hvs.open
      have c0' : wr.cell? ⟨gb, j * 2, none⟩ = some (.slice pv bks[j].values.length cv) := by rw [(bcell hbw).1 gb _ hg]; exact c0
      obtain ⟨T, zv, hzv⟩ := lastV_shape bks[j].last
      have c1' : wr.cell? ⟨gb, j * 2 + 1, none⟩ = some (.iface T zv) := by rw [(bcell hbw).1 gb _ hg, ← hzv]; exact c1
      generalize bks[j].values = vals at *
      have HV := hide hval
      clear hval c0 c1 hvs hzv hsp
      go_wp2_with fail
      generalize hw3 : wr.alloc _ = w3
      have hb3 : Below w.heap.size w w3 := by rw [← hw3]; exact below_al hbw _
      have hrow3 : natRow w3 g C := by rw [← hw3]; exact stay_alloc hrw
      have hx3 : w3.heap[w.heap.size]? = some (.cells #[.int .i64 (args : Nat), .slice (some ⟨gb, 0, none⟩) bks.length c] 47) := by rw [← hw3]; exact stay_alloc hxr
      clear hw3 c0' c1' hrw hxr
      rename World => wo
      go_loopw [26] (fun i ws => ∃ k : Nat, k ≤ vals.length ∧ i = .int .i64 k ∧ natRow ws g C ∧ ws.heap[w.heap.size]? = some (.cells #[.int .i64 (args : Nat), .slice (some ⟨gb, 0, none⟩) bks.length c] 47) ∧ Below w.heap.size w ws ∧ Hid (∀ k' (h : k' < vals.length), k' < k → ∀ of, vals[k'].thing = .phi of → j ≠ 0 ∧ of.length = C.getD j 0)) (fun i _ => vals.length - (intOf i).toNat)
      case atStart => exact ⟨0, by omega, rfl, hrow3, hx3, hb3, hide fun k' h h' => by omega⟩
      case round =>
        obtain ⟨k, hk, rfl, hrw, hxs, hbs, hsp⟩ := hrel
        clear hrow3 hb3 hx3
        have hzs := hbs.size
        by_cases hkt : k < vals.length
        · obtain ⟨g2, th, rfl, hg2, d0, d1, hth⟩ := HV.out k hkt
          have HPK : Hid ((∀ of, vals[k].thing = .phi of → j ≠ 0 ∧ of.length = C.getD j 0) → ∀ k' (h : k' < vals.length), k' < k + 1 → ∀ of, vals[k'].thing = .phi of → j ≠ 0 ∧ of.length = C.getD j 0) := hide fun e k' h h' => by
            by_cases hq : k' < k
            · exact hsp.out k' h hq
            · obtain rfl : k' = k := by omega
              exact e
          clear hsp
          have d0' : wr.cell? ⟨g2, k * 2, none⟩ = some (.int .i64 (vals[k].num : Nat)) := by rw [(bcell hbs).1 g2 _ hg2]; exact d0
          have d1' : wr.cell? ⟨g2, k * 2 + 1, none⟩ = some th := by rw [(bcell hbs).1 g2 _ hg2]; exact d1
          have hth' : ThingV w base vals[k].thing th := hth
          generalize vals[k].thing = y at *
          generalize vals[k].num = x at *
          clear d0 d1
          have hcj := hrw.cell j (by omega)
          have hjl : (j : Int) < (bks.length : Int) := by omega
          have hl1 := lt_of_block hrw
          cases y with
          | phi of =>
            obtain ⟨r, rfl, hro⟩ := hth'
            obtain ⟨pr, cr, rfl⟩ := own_slice hro
            have hta := isPhi_phi
            have hlx := lt_of_block hxs
            by_cases hgood : j ≠ 0 ∧ of.length = C[j]'(by omega)
            · obtain ⟨hj0, hof⟩ := hgood
              have HN := hide (HPK.out (fun of' e => by cases e; exact ⟨hj0, by rw [hgd]; exact hof⟩))
              have hj0' : ((j : Int) == 0) = false := beq_eq_false_iff_ne.2 (by omega)
              have hof' : (((of.length : Nat) : Int) != ((C[j]'(by omega) : Nat) : Int)) = false := by rw [hof]; simp
              clear HPK
              go_wp2_with fail
              go_quiet (fail)
              go_wp2
              exact ⟨⟨k + 1, by omega, by go_num, stay_alloc (stay_alloc hrw), stay_alloc (stay_alloc hxs), belowN (below_al (below_al hbs _) _) _, HN⟩, by simp [intOf]; omega⟩
            · clear HPK
              have HC : Hid (∀ w', Below w.heap.size w w' → Calls Tryd.prog 80 #[.agg #[.int .i64 (args : Nat), .slice (some ⟨gb, 0, none⟩) bks.length c], .int .i64 (j : Nat), .int .i64 (k : Int)] w' fun e w'' => FailsB w' e w'') := hide fun w' h => fail_form args bks (some ⟨gb, 0, none⟩) c base w' (HF.out.below h) hn HL.out j hlt k ⟨by omega, by omega⟩
              by_cases hj0 : j = 0
              · have hj0' : ((j : Int) == 0) = true := by rw [hj0]; rfl
                have HC0 : Hid (∀ w', Below w.heap.size w w' → Calls Tryd.prog 80 #[.agg #[.int .i64 (args : Nat), .slice (some ⟨gb, 0, none⟩) bks.length c], .int .i64 0, .int .i64 (k : Int)] w' fun e w'' => FailsB w' e w'') := hide fun w' h => by
                  have := HC.out w' h
                  rw [hj0] at this
                  exact this
                clear hgood
                go_wp2_with fail
                go_quiet (fail)
                generalize hw9 : World.drewN _ _ = w9
                have hb9 : Below w.heap.size w w9 := by rw [← hw9]; exact belowN (below_al (below_al hbs _) _) _
                have hx9 : w9.heap[w.heap.size]? = some (.cells #[.int .i64 (args : Nat), .slice (some ⟨gb, 0, none⟩) bks.length c] 47) := by rw [← hw9]; exact stay_alloc (stay_alloc hxs)
                have hxa := blk_cell hx9 0 _ rfl
                have hxb := blk_cell hx9 1 _ rfl
                clear hw9 hx9
                go_wp2_with fail
                refine (HC0.out w9 hb9).mono ?_
                rintro e w10 ⟨⟨l, rfl⟩, hb10⟩
                go_wp2
                exact ⟨rfl, ⟨l, rfl⟩, hb9.trans (hb10.mono hb9.size)⟩
              · have hj0' : ((j : Int) == 0) = false := beq_eq_false_iff_ne.2 (by omega)
                have hof' : (((of.length : Nat) : Int) != ((C[j]'(by omega) : Nat) : Int)) = true := by
                  have : of.length ≠ C[j]'(by omega) := fun e => hgood ⟨hj0, e⟩
                  exact bne_iff_ne.2 (by omega)
                clear hgood
                go_wp2_with fail
                go_quiet (fail)
                generalize hw9 : World.drewN _ _ = w9
                have hb9 : Below w.heap.size w w9 := by rw [← hw9]; exact belowN (below_al (below_al hbs _) _) _
                have hx9 : w9.heap[w.heap.size]? = some (.cells #[.int .i64 (args : Nat), .slice (some ⟨gb, 0, none⟩) bks.length c] 47) := by rw [← hw9]; exact stay_alloc (stay_alloc hxs)
                have hxa := blk_cell hx9 0 _ rfl
                have hxb := blk_cell hx9 1 _ rfl
                clear hw9 hx9
                go_wp2_with fail
                refine (HC.out w9 hb9).mono ?_
                rintro e w10 ⟨⟨l, rfl⟩, hb10⟩
                go_wp2
                exact ⟨rfl, ⟨l, rfl⟩, hb9.trans (hb10.mono hb9.size)⟩
          | arg m =>
            have hth2 : th = _ := hth'
            subst hth2
            have hta := isPhi_arg
            have HN := hide (HPK.out (fun of' e => by cases e))
            clear HPK
            go_wp2_with fail
            go_quiet (fail)
            go_wp2
            exact ⟨⟨k + 1, by omega, by go_num, stay_alloc (stay_alloc hrw), stay_alloc (stay_alloc hxs), belowN (below_al (below_al hbs _) _) _, HN⟩, by simp [intOf]; omega⟩
          | const m =>
            have hth2 : th = _ := hth'
            subst hth2
            have hta := isPhi_const
            have HN := hide (HPK.out (fun of' e => by cases e))
            clear HPK
            go_wp2_with fail
            go_quiet (fail)
            go_wp2
            exact ⟨⟨k + 1, by omega, by go_num, stay_alloc (stay_alloc hrw), stay_alloc (stay_alloc hxs), belowN (below_al (below_al hbs _) _) _, HN⟩, by simp [intOf]; omega⟩
          | apply q of =>
            obtain ⟨r, rfl, hro⟩ := hth'
            obtain ⟨pr, cr, rfl⟩ := own_slice hro
            have hta := isPhi_apply
            have HN := hide (HPK.out (fun of' e => by cases e))
            clear HPK
            go_wp2_with fail
            go_quiet (fail)
            go_wp2
            exact ⟨⟨k + 1, by omega, by go_num, stay_alloc (stay_alloc hrw), stay_alloc (stay_alloc hxs), belowN (below_al (below_al hbs _) _) _, HN⟩, by simp [intOf]; omega⟩
        · have HN := hide (HNJ.out (fun v hv of e => by
            obtain ⟨k', hk', rfl⟩ := List.getElem_of_mem hv
            exact hsp.out k' hk' (by omega) of e))
          clear hsp HNJ
          go_wp2
          exact ⟨⟨j + 1, by omega, by go_num, hrw, hxs, hbs, HN⟩, by simp [intOf]; omega⟩
    · exact absurd (fun j' h => hsp.out j' h (by omega)) HP'.out

set_option maxRecDepth 100000 in
set_option maxHeartbeats 4000000 in
theorem phisMade_no (args : Nat) (bks : List Code.Blk) (p : Option Addr) (c : Nat) (base : Nat) (w : World) (hf : RepBlks w base (.slice p bks.length c) bks) (j : Nat) (hj : j < bks.length) (hn : bks.length ≤ 8) (hl : ∀ b ∈ bks, b.values.length ≤ 100000) (place : Nat) (R : List Bool) (hR : R.length = 60) (hof : ∀ v ∈ bks[j].values, ∀ of, v.thing = .phi of → ∃ h : place < of.length, of[place] < 60) (hp : ¬ Code.PhisMade bks[j].values place R) :
    Calls Tryd.prog 87 #[.agg #[.int .i64 (args : Nat), .slice p bks.length c], .int .i64 (j : Nat), .int .i64 (place : Nat), .agg (setA R)] w fun e w' => FailsB w e w' := by
  have HF := hide hf
  have HL := hide hl
  have hlen := hl bks[j] (List.getElem_mem hj)
  obtain ⟨p', c', hpe, hblk⟩ := hf.open
  simp only [Value.slice.injEq] at hpe
  obtain ⟨rfl, _, rfl⟩ := hpe
  obtain ⟨gb, vs, rfl, hg, c0, c1, hvs⟩ := hblk j hj
  obtain ⟨pv, cv, rfl, hval⟩ := hvs.open
  have HP := hide hp
  have HOF := hide hof
  have HV := hide hval
  generalize bks[j].values = vals at *
  clear hblk hf hp hval hvs c1 hof hl
  have hjl : (j : Int) < (bks.length : Int) := by omega
  have hglt : gb < w.heap.size := hg
  go_enter Tryd.func87, Tryd.ntmps87
  go_wp2
  generalize hw0 : (w.alloc _).alloc _ = w0
  have hr0 : setRow w0 (w.heap.size + 1) R := by
    have h := heap_alloc_new (w.alloc (.cells #[.int .i64 (args : Nat), .slice (some ⟨gb, 0, none⟩) bks.length c] 47)) (.cells (setA R) 159)
    rw [alloc_size] at h
    rw [← hw0]; exact h
  have hb0 : Below w.heap.size w w0 := by rw [← hw0]; exact below_al (below_al (Below.refl _ _) _) _
  have hx0 : w0.heap[w.heap.size]? = some (.cells #[.int .i64 (args : Nat), .slice (some ⟨gb, 0, none⟩) bks.length c] 47) := by rw [← hw0]; exact stay_alloc (heap_alloc_new w _)
  clear hw0
  go_loopw [19] (fun i wr => ∃ k : Nat, k ≤ vals.length ∧ i = .int .i64 k ∧ setRow wr (w.heap.size + 1) R ∧ wr.heap[w.heap.size]? = some (.cells #[.int .i64 (args : Nat), .slice (some ⟨gb, 0, none⟩) bks.length c] 47) ∧ Below w.heap.size w wr ∧ Hid (¬ Code.PhisMade (vals.drop k) place R)) (fun i _ => vals.length - (intOf i).toNat)
  case atStart => exact ⟨0, by omega, rfl, hr0, hx0, hb0, HP⟩
  case round =>
    obtain ⟨k, hk, rfl, hrw, hxr, hbw, hsp⟩ := hrel
    clear hr0 hb0 hx0 HP
    have hz := hbw.size
    by_cases hkt : k < vals.length
    · obtain ⟨g2, th, rfl, hg2, d0, d1, hth⟩ := HV.out k hkt
      have HPK : Hid ((∀ of, vals[k].thing = .phi of → ∃ h : place < of.length, of[place] < 60 ∧ R.getD of[place] false = true) → ¬ Code.PhisMade (vals.drop (k + 1)) place R) := hide fun e h => hsp.out (by
        rw [List.drop_eq_getElem_cons hkt]
        intro v hv
        rcases List.mem_cons.1 hv with rfl | hv
        · exact e
        · exact h v hv)
      have HOK := hide (HOF.out vals[k] (List.getElem_mem hkt))
      have hlx := lt_of_block hxr
      clear hsp
      have d0' : wr.cell? ⟨g2, k * 2, none⟩ = some (.int .i64 (vals[k].num : Nat)) := by rw [(bcell hbw).1 g2 _ hg2]; exact d0
      have d1' : wr.cell? ⟨g2, k * 2 + 1, none⟩ = some th := by rw [(bcell hbw).1 g2 _ hg2]; exact d1
      have hth' : ThingV w base vals[k].thing th := hth
      generalize vals[k].thing = y at *
      generalize vals[k].num = x at *
      clear d0 d1 hth
      have hl1 := lt_of_block hrw
      cases y with
      | phi of =>
        obtain ⟨r, rfl, hro⟩ := hth'
        obtain ⟨pr, cr, rfl, hvv⟩ := nats_open hro
        obtain ⟨hpo, hp60⟩ := HOK.out of rfl
        obtain ⟨g3, rfl, e0⟩ := hvv place hpo
        have hg3 : g3 < w.heap.size := by
          cases hh : w.heap[g3]? with
          | none => simp [World.cell?, hh] at e0
          | some o => exact lt_of_block hh
        have e0' : wr.cell? ⟨g3, place, none⟩ = some (.int .i64 (of[place] : Nat)) := by rw [(bcell hbw).1 g3 _ hg3]; exact e0
        have hcx0 := hrw.cell of[place] (by omega)
        have hgd : R.getD of[place] false = R[of[place]]'(by omega) := by rw [List.getD_eq_getElem?_getD, List.getElem?_eq_getElem (by omega)]; rfl
        have HPK2 : Hid (R[of[place]]'(by omega) = true → ¬ Code.PhisMade (vals.drop (k + 1)) place R) := hide fun e => HPK.out fun of' e' => by
          cases e'
          exact ⟨hpo, hp60, by rw [hgd]; exact e⟩
        have hg3' : g3 < wr.heap.size := by omega
        have hz' : w.heap.size < wr.heap.size := by omega
        have hpl' : (place : Int) < (of.length : Int) := by omega
        have hx60 : ((of[place] : Nat) : Int) < 60 := by omega
        have hta := isPhi_phi
        clear hvv hro e0 HPK HOK hgd
        generalize R[of[place]]'(by omega) = sx at *
        generalize of[place] = q at *
        cases sx with
        | true =>
          go_wp2
          exact ⟨⟨k + 1, by omega, by go_num, stay_alloc (stay_alloc hrw), stay_alloc (stay_alloc hxr), below_al (below_al hbw _) _, hide (HPK2.out rfl)⟩, by simp [intOf]; omega⟩
        | false =>
          have HC : Hid (∀ w', Below w.heap.size w w' → Calls Tryd.prog 80 #[.agg #[.int .i64 (args : Nat), .slice (some ⟨gb, 0, none⟩) bks.length c], .int .i64 (j : Nat), .int .i64 (k : Int)] w' fun e w'' => FailsB w' e w'') := hide fun w' h => fail_form args bks (some ⟨gb, 0, none⟩) c base w' (HF.out.below h) hn HL.out j hj k ⟨by omega, by omega⟩
          clear HPK2
          have hxa := blk_cell hxr 0 _ rfl
          have hxb := blk_cell hxr 1 _ rfl
          go_wp2_with fail
          generalize hw9 : (wr.alloc _).alloc _ = w9
          have hb9 : Below w.heap.size w w9 := by rw [← hw9]; exact below_al (below_al hbw _) _
          clear hw9
          refine (HC.out w9 hb9).mono ?_
          rintro e w10 ⟨⟨l, rfl⟩, hb10⟩
          go_wp2
          exact ⟨rfl, ⟨l, rfl⟩, hb9.trans (hb10.mono hb9.size)⟩
      | arg m =>
        have hth2 : th = _ := hth'
        subst hth2
        have hta := isPhi_arg
        have HN := hide (HPK.out (fun of' e => by cases e))
        clear HPK HOK
        go_wp2
        exact ⟨⟨k + 1, by omega, by go_num, stay_alloc (stay_alloc hrw), stay_alloc (stay_alloc hxr), below_al (below_al hbw _) _, HN⟩, by simp [intOf]; omega⟩
      | const m =>
        have hth2 : th = _ := hth'
        subst hth2
        have hta := isPhi_const
        have HN := hide (HPK.out (fun of' e => by cases e))
        clear HPK HOK
        go_wp2
        exact ⟨⟨k + 1, by omega, by go_num, stay_alloc (stay_alloc hrw), stay_alloc (stay_alloc hxr), below_al (below_al hbw _) _, HN⟩, by simp [intOf]; omega⟩
      | apply m of =>
        obtain ⟨r, rfl, hro⟩ := hth'
        obtain ⟨pr, cr, rfl⟩ := own_slice hro
        have hta := isPhi_apply
        have HN := hide (HPK.out (fun of' e => by cases e))
        clear HPK HOK
        go_wp2
        exact ⟨⟨k + 1, by omega, by go_num, stay_alloc (stay_alloc hrw), stay_alloc (stay_alloc hxr), below_al (below_al hbw _) _, HN⟩, by simp [intOf]; omega⟩
    · exact absurd (by rw [List.drop_of_length_le (by omega)]; intro v hv; simp at hv) hsp.out
end Go.Proofs.YtedkjanogjglkaaDoor


namespace Go.Proofs.YtedkjanogjglkaaDoor
open Go.RowKit

namespace Code
/-- One block of what is asked. -/
def AtOk (bks : List Blk) (A : Sets) (j : Nat) (h : j < bks.length) (h' : j < A.length) : Prop := ValsOk A[j] bks[j].values ∧ hasAll (addAll A[j] bks[j].values) (useL bks[j].last) = true ∧
    ∀ k (hk : k < (tg bks[j].last).length) (ht : (tg bks[j].last)[k] < bks.length), PhisMade bks[(tg bks[j].last)[k]].values ((edges bks).places j k) (addAll A[j] bks[j].values)
end Code

set_option maxRecDepth 100000 in
set_option maxHeartbeats 8000000 in
theorem madeAhead_no (args : Nat) (bks : List Code.Blk) (p : Option Addr) (c : Nat) (base : Nat) (w : World) (hf : RepBlks w base (.slice p bks.length c) bks) (hn : bks.length ≤ 8) (hn0 : 0 < bks.length) (hl : Code.Small bks) (ht : ∀ b ∈ bks, ∀ t ∈ Code.tg b.last, t < bks.length)
    (hph : ∀ j (h : j < bks.length) k (hk : k < (Code.tg bks[j].last).length) (ht : (Code.tg bks[j].last)[k] < bks.length), ∀ v ∈ bks[(Code.tg bks[j].last)[k]].values, ∀ of, v.thing = .phi of → ∃ h : (Code.edges bks).places j k < of.length, of[(Code.edges bks).places j k] < 60)
    (ha : ¬ ∀ A, A.length = bks.length → All60 A → Code.Iter bks (Code.startTo bks.length bks.length) A → Code.AheadOk bks A) :
    Calls Tryd.prog 72 #[.agg #[.int .i64 (args : Nat), .slice p bks.length c]] w fun e w' => FailsB w e w' := by
  have HF := hide hf
  have HTG := hide ht
  have HL := hide hl
  have HPH := hide hph
  have HLL : Hid (∀ b ∈ bks, b.values.length ≤ 100000) := hide fun b hb => (hl b hb).1
  clear hf ht hl hph
  go_enter Tryd.func72, Tryd.ntmps72
  go_wp2_with fail
  generalize hw0 : w.alloc _ = w0
  have hx0 : w0.heap[w.heap.size]? = some (.cells #[.int .i64 (args : Nat), .slice p bks.length c] 47) := by rw [← hw0]; exact heap_alloc_new w _
  have hb0 : Below w.heap.size w w0 := by rw [← hw0]; exact below_al (Below.refl _ _) _
  have hz0 : w0.heap.size = w.heap.size + 1 := by rw [← hw0]; simp
  clear hw0
  refine (edges_any args bks p c base w0 (HF.out.below hb0) hn HTG.out).mono ?_
  rintro e w1 ⟨mb, gc, n, rfl, hmb, hgc, hE, _, hb1⟩
  have hx1 := (hb1.block _ (lt_of_block hx0)).trans hx0
  have hbw1 : Below w.heap.size w w1 := hb0.trans (hb1.mono hb0.size)
  have hx1a := blk_cell hx1 0 _ rfl
  have hx1b := blk_cell hx1 1 _ rfl
  clear hx0 hb0 hb1
  go_wp2_with fail
  refine (madeAhead_any args bks p c base w1 (HF.out.below hbw1) hn hn0 (fun b hb => ⟨(HL.out b hb).1, fun v hv => ((HL.out b hb).2.1 v hv).1⟩) HTG.out).mono ?_
  rintro e w2 ⟨gA, A, rfl, hgA, hA, hA6, hrA, hit, hb2⟩
  have HAO : Hid (¬ Code.AheadOk bks A) := hide fun h => ha fun A' _ _ hit' => by rw [← Code.Iter.det hit hit']; exact h
  have hx2 := (hb2.block _ (lt_of_block hx1)).trans hx1
  have hE2 := hE.below hb2
  have hbw2 : Below w.heap.size w w2 := hbw1.trans (hb2.mono hbw1.size)
  have hx2b := blk_cell hx2 1 _ rfl
  have hmb1 := hE.lt
  have hz1 := hbw1.size
  have hmbA : mb < gA := by omega
  clear hx1 hx1a hx1b hE hbw1 hb2 hit ha
  go_wp2_with fail
  obtain ⟨p', c', hpe, hblk⟩ := HF.out.open
  simp only [Value.slice.injEq] at hpe
  obtain ⟨rfl, _, rfl⟩ := hpe
  have HBLK := hide hblk
  clear hblk hx2b
  go_loopw [22] (fun i wr => ∃ j : Nat, j ≤ bks.length ∧ i = .int .i64 j ∧ setsRow wr gA A ∧ EMap wr mb n (Code.edges bks).places ∧ wr.heap[w.heap.size]? = some (.cells #[.int .i64 (args : Nat), .slice p bks.length c] 47) ∧ Below w.heap.size w wr ∧ Hid (∀ j' (h : j' < bks.length) (h' : j' < A.length), j' < j → Code.AtOk bks A j' h h')) (fun i _ => bks.length - (intOf i).toNat)
  case atStart => exact ⟨0, by omega, rfl, hrA, hE2, hx2, hbw2, hide fun j' h h' h'' => by omega⟩
  case round =>
    obtain ⟨j, hj, rfl, hrs, hEm, hxs, hbs, hspo⟩ := hrel
    clear hrA hE2 hx2 hbw2
    have hzs := hbs.size
    by_cases hlt : j < bks.length
    · obtain ⟨gb, vs, rfl, hg, c0, c1, hvs⟩ := HBLK.out j hlt
      obtain ⟨hlen, hnum, hul, hul6⟩ := HL.out bks[j] (List.getElem_mem hlt)
      have hjA : j < A.length := by omega
      have HNJ : Hid (Code.AtOk bks A j hlt hjA → ∀ j' (h : j' < bks.length) (h' : j' < A.length), j' < j + 1 → Code.AtOk bks A j' h h') := hide fun e j' h h' h'' => by
        by_cases hq : j' < j
        · exact hspo.out j' h h' hq
        · obtain rfl : j' = j := by omega
          exact e
      have HNJ2 : Hid ((Code.ValsOk A[j] bks[j].values ∧ Code.hasAll (Code.addAll A[j] bks[j].values) (Code.useL bks[j].last) = true ∧ ∀ k (hk : k < (Code.tg bks[j].last).length) (ht : (Code.tg bks[j].last)[k] < bks.length), Code.PhisMade bks[(Code.tg bks[j].last)[k]].values ((Code.edges bks).places j k) (Code.addAll A[j] bks[j].values)) → ∀ j' (h : j' < bks.length) (h' : j' < A.length), j' < j + 1 → Code.AtOk bks A j' h h') := HNJ
      have HPHJ := hide (HPH.out j hlt)
      clear hspo HNJ
      obtain ⟨pv, cv, rfl, hval⟩ := hvs.open
      have c0' : wr.cell? ⟨gb, j * 2, none⟩ = some (.slice pv bks[j].values.length cv) := by rw [(bcell hbs).1 gb _ hg]; exact c0
      obtain ⟨T, zv, hzv⟩ := lastV_shape bks[j].last
      have c1' : wr.cell? ⟨gb, j * 2 + 1, none⟩ = some (.iface T zv) := by rw [(bcell hbs).1 gb _ hg, ← hzv]; exact c1
      have HTA := hide (targets_any bks[j].last)
      have HUL := hide (usesOfLast_any bks[j].last)
      rw [hzv] at HTA HUL
      have htb : ∀ t ∈ Code.tg bks[j].last, t < bks.length := HTG.out bks[j] (List.getElem_mem hlt)
      have htl := Code.tg_length bks[j].last
      have hR60 : A[j].length = 60 := hA6 _ (List.getElem_mem hjA)
      have HRG : Hid (∀ w', setsRow w' gA A → w'.rangeAt gA (j * 60) (setL A[j])) := hide fun w' h => h.range hA6 j hjA
      have HV := hide hval
      have HNUM := hide hnum
      have HUL6 := hide hul6
      generalize Code.useL bks[j].last = ul at *
      generalize Code.tg bks[j].last = tl at *
      generalize bks[j].values = vals at *
      generalize A[j] = Rj at *
      clear c0 c1 hvs hzv hval hnum hul6
      have hjl : (j : Int) < (bks.length : Int) := by omega
      have hiR := setSize Rj hR60
      have hiR' : (Tryd.prog.info? 159).map (·.size) = some (setL Rj).toArray.size := setSize' Rj hR60
      have hoR : (setL Rj).toArray.all (·.oneCell') = true := setOne Rj
      have hlR : (setL Rj).toArray.size = 60 := by rw [List.size_toArray, setL_length]; exact hR60
      have hcc : (((wr.alloc (.cells #[.slice pv vals.length cv, .iface T zv] 89)).alloc (.cells #[.bool false, .bool false, .bool false, .bool false, .bool false, .bool false, .bool false, .bool false, .bool false, .bool false, .bool false, .bool false, .bool false, .bool false, .bool false, .bool false, .bool false, .bool false, .bool false, .bool false, .bool false, .bool false, .bool false, .bool false, .bool false, .bool false, .bool false, .bool false, .bool false, .bool false, .bool false, .bool false, .bool false, .bool false, .bool false, .bool false, .bool false, .bool false, .bool false, .bool false, .bool false, .bool false, .bool false, .bool false, .bool false, .bool false, .bool false, .bool false, .bool false, .bool false, .bool false, .bool false, .bool false, .bool false, .bool false, .bool false, .bool false, .bool false, .bool false, .bool false] 159)).setCells (wr.heap.size + 1) 0 (setL Rj)).cell? ⟨wr.heap.size, 0, none⟩ = some (.slice pv vals.length cv) := blk_cell (stay_cells (stay_alloc (heap_alloc_new wr _)) (by omega)) 0 _ rfl
      go_wp2_with (first | refine wpList_load_mid rfl 159 _ rfl gA (j * 60) rfl (setL Rj) _ (HRG.out _ (stay_alloc hrs)) Tryd.underlying159 rfl hiR ?_ | (refine wpList_store_mid rfl 159 _ _ rfl (wr.heap.size + 1) 0 (setL Rj).toArray rfl rfl ?_ hiR' hoR ?_; (rw [hlR]; (have h := newThere (wr.alloc (.cells #[.slice pv vals.length cv, .iface T zv] 89))); (rw [alloc_size] at h); exact h); (rw [show (setL Rj).toArray.toList = setL Rj from rfl])))
      generalize hw4 : World.setCells _ _ _ _ = w4
      have hM4 : setRow w4 (wr.heap.size + 1) Rj := by
        have h := newSet (wr.alloc (.cells #[.slice pv vals.length cv, .iface T zv] 89)) Rj hR60
        rw [alloc_size] at h
        rw [← hw4]; exact h
      have hb4 : Below wr.heap.size wr w4 := by rw [← hw4]; exact below_cells (below_al (below_al (Below.refl _ _) _) _) (Nat.le_succ _) _ _
      have hcp4 : w4.heap[wr.heap.size]? = some (.cells #[.slice pv vals.length cv, .iface T zv] 89) := by
        rw [← hw4]; exact stay_cells (stay_alloc (heap_alloc_new wr _)) (by omega)
      have hbw4 : Below w.heap.size w w4 := hbs.trans (hb4.mono hzs)
      have hrs4 : setsRow w4 gA A := (hb4.block _ (lt_of_block hrs)).trans hrs
      have hEm4 := hEm.below hb4
      have hxs4 := (hb4.block _ (lt_of_block hxs)).trans hxs
      have hltA := lt_of_block hrs
      have hltM := hEm.lt
      have hltX := lt_of_block hxs
      clear hw4 hrs hEm hxs hbs c0' c1' hb4
      clear hcc
      generalize hb6 : wr.heap.size = b6 at *
      rename World => wo
      go_loopw [34] (fun i ws => ∃ (k : Nat) (S : List Bool), k ≤ vals.length ∧ i = .int .i64 k ∧ S.length = 60 ∧ setRow ws (b6 + 1) S ∧ wo.grownBy ws (some (b6 + 1)) ∧ Hid ((Code.ValsOk S (vals.drop k) → Code.ValsOk Rj vals) ∧ Code.addAll S (vals.drop k) = Code.addAll Rj vals)) (fun i _ => vals.length - (intOf i).toNat)
      case atStart => exact ⟨0, Rj, by omega, rfl, hR60, hM4, grown_refl _ _, hide ⟨id, rfl⟩⟩
      case round =>
        obtain ⟨k, S, hk, rfl, hS, hMk, hgk, hsp⟩ := hrel
        clear hM4
        have hbk := below_of_grown hbw4 hgk (by omega)
        have hMl := lt_of_block hMk
        by_cases hkt : k < vals.length
        · obtain ⟨g2, th, rfl, hg2, d0, d1, hth⟩ := HV.out k hkt
          obtain ⟨hx60, hul2, hu60⟩ := HNUM.out vals[k] (List.getElem_mem hkt)
          have hvo := hsp.out.1
          have hva := hsp.out.2
          rw [List.drop_eq_getElem_cons hkt] at hvo hva
          have HN : Hid (Code.hasAll S (Code.useT vals[k].thing) = true → (Code.ValsOk (S.set vals[k].num true) (vals.drop (k + 1)) → Code.ValsOk Rj vals) ∧ Code.addAll (S.set vals[k].num true) (vals.drop (k + 1)) = Code.addAll Rj vals) := hide fun e => ⟨fun h => hvo ⟨e, h⟩, hva⟩
          have d0' : wr.cell? ⟨g2, k * 2, none⟩ = some (.int .i64 (vals[k].num : Nat)) := by rw [(bcell hbk).1 g2 _ hg2]; exact d0
          have d1' : wr.cell? ⟨g2, k * 2 + 1, none⟩ = some th := by rw [(bcell hbk).1 g2 _ hg2]; exact d1
          have HTH := hide hth
          generalize vals[k].thing = y at *
          generalize vals[k].num = x at *
          obtain ⟨T', tv, rfl⟩ := hth.shape
          clear d0 d1 hth hsp hvo hva
          have hx' : (x : Int) < 60 := by omega
          obtain ⟨bx, hcx⟩ : ∃ bx, wr.cell? ⟨b6 + 1, x, none⟩ = some bx := ⟨_, hMk.cell x (by omega)⟩
          go_wp2_with fail
          generalize hw9 : wr.alloc _ = w9
          have hb9 : Below wr.heap.size wr w9 := by rw [← hw9]; exact below_al (Below.refl _ _) _
          have hcp9 : w9.heap[wr.heap.size]? = some (.cells #[.int .i64 (x : Nat), .iface T' tv] 93) := by rw [← hw9]; exact heap_alloc_new wr _
          have hM9 : setRow w9 (b6 + 1) S := (hb9.block _ hMl).trans hMk
          have hbw9 : Below w.heap.size w w9 := hbk.trans (hb9.mono hbk.size)
          generalize hb8 : wr.heap.size = b8 at *
          clear hw9 d0' d1' hcx
          have e1 : ∀ w', Below w9.heap.size w9 w' → w'.cell? ⟨b8, 1, none⟩ = some (.iface T' tv) := fun w' h => blk_cell ((h.block _ (lt_of_block hcp9)).trans hcp9) 1 _ rfl
          have HRG9 : Hid (∀ w', Below w9.heap.size w9 w' → w'.rangeAt (b6 + 1) 0 (setL S)) := hide fun w' h => setRow.range (w := w') ((h.block _ (lt_of_block hM9)).trans hM9)
          have HUP : Hid (∀ w', Below w9.heap.size w9 w' → Calls Tryd.prog 85 #[.iface T' tv] w' fun e w'' => ∃ r, e = .returned r ∧ w''.ownsRow base 3 1 r (Code.useT y).length (nats (Code.useT y)) ∧ Below w9.heap.size w9 w'') := hide fun w' h => by
            have hbw' : Below w.heap.size w w' := hbw9.trans (h.mono hbw9.size)
            refine (usesInPlace_any y (.iface T' tv) base w' (HTH.out.mono (fun _ _ _ h => own_below h hbw'))).mono ?_
            rintro e w'' ⟨r, h1, h2, h3⟩
            exact ⟨r, h1, h2, h.trans (h3.mono h.size)⟩
          have HHA : Hid (∀ w' r, Below w9.heap.size w9 w' → w'.ownsRow base 3 1 r (Code.useT y).length (nats (Code.useT y)) → Calls Tryd.prog 84 #[.agg (setL S).toArray, r] w' fun e w'' => e = .returned (.bool (Code.hasAll S (Code.useT y))) ∧ Below w9.heap.size w9 w'') := hide fun w' r h hr => by
            refine (hasAll_any S hS (Code.useT y) hu60 hul2 r base w' hr).mono ?_
            rintro e w'' ⟨h1, h2⟩
            exact ⟨h1, h.trans (h2.mono h.size)⟩
          have hu := Tryd.underlying159
          have hi60 := setSize S hS
          have hl60 : (setL S).length = 60 := by rw [setL_length]; exact hS
          generalize hsx : Code.hasAll S (Code.useT y) = sx at *
          go_region_held3 (fun w' => Below w9.heap.size w9 w' ∧ w'.rangeAt (b6 + 1) 0 (setL S)) (first | assumption | (go_split_ands; (try dsimp only); refine ⟨?_, HRG9.out _ ?_⟩ <;> (repeat' (first | assumption | exact Below.refl _ _ | apply Below.drew)))) (first | (go_at_call 85; refine (HUP.out _ ?_).mono ?_; (repeat' (first | assumption | exact Below.refl _ _ | apply Below.drew)); rintro e w10 ⟨r, rfl, hrow, hb10⟩) | (go_at_call 84; refine (HHA.out _ _ ?_ ?_).mono ?_; (exact hb10); (exact hrow); rintro e w11 ⟨rfl, hb11⟩))
          have hcp11 := (hb11.block _ (lt_of_block hcp9)).trans hcp9
          have hM11 : setRow w11 (b6 + 1) S := (hb11.block _ (lt_of_block hM9)).trans hM9
          have f0 := blk_cell hcp11 0 _ rfl
          obtain ⟨by11, hcx11⟩ : ∃ b, w11.cell? ⟨b6 + 1, x, none⟩ = some b := ⟨_, hM11.cell x (by omega)⟩
          have hfz11 := blk_froz hM11 x
          have hg11 : wo.grownBy w11 (some (b6 + 1)) := grown_trans hgk (grown_below (hb8 ▸ (hb9.trans (hb11.mono (hb8 ▸ hb9.size)))))
          have hb11w : Below w.heap.size w w11 := hbw9.trans (hb11.mono hbw9.size)
          have hxs11 := kept_block hxs4 hg11 (by omega)
          have hxa := blk_cell hxs11 0 _ rfl
          have hxb := blk_cell hxs11 1 _ rfl
          clear hcp9 hM9 e1 HRG9 HUP HHA hi60 hl60 hu hsx
          cases sx with
          | true =>
            go_wp2
            exact ⟨⟨k + 1, S.set x true, by omega, by go_num, by simp [hS], hM11.set x true, grown_trans hg11 (grown_set _ _ _ _), hide (HN.out rfl)⟩, by simp [intOf]; omega⟩
          | false =>
            clear HN
            go_wp2_with fail
            refine (fail_form args bks (some ⟨gb, 0, none⟩) c base w11 (HF.out.below hb11w) hn HLL.out j hlt k ⟨by omega, by omega⟩).mono ?_
            rintro e w20 ⟨⟨l, rfl⟩, hb20⟩
            go_wp2
            exact ⟨rfl, ⟨l, rfl⟩, hb11w.trans (hb20.mono hb11w.size)⟩
        · have HSA : Hid (S = Code.addAll Rj vals) := by
            have h := hsp.out.2
            rw [List.drop_of_length_le (by omega)] at h
            exact h
          have HVOK : Hid (Code.ValsOk Rj vals) := hide (hsp.out.1 (by rw [List.drop_of_length_le (by omega)]; trivial))
          clear hsp
          have hcpk := kept_block hcp4 hgk (by omega)
          have hb6l := lt_of_block hcpk
          have e1 : ∀ w', Below wr.heap.size wr w' → w'.cell? ⟨b6, 1, none⟩ = some (.iface T zv) := fun w' h => blk_cell ((h.block _ hb6l).trans hcpk) 1 _ rfl
          have HRG9 : Hid (∀ w', Below wr.heap.size wr w' → w'.rangeAt (b6 + 1) 0 (setL S)) := hide fun w' h => setRow.range (w := w') ((h.block _ hMl).trans hMk)
          have HUP : Hid (∀ w', Below wr.heap.size wr w' → Calls Tryd.prog 86 #[.iface T zv] w' fun e w'' => ∃ r, e = .returned r ∧ w''.ownsRow 0 3 1 r ul.length (nats ul) ∧ Below wr.heap.size wr w'') := hide fun w' h => by
            refine (HUL.out w').mono ?_
            rintro e w'' ⟨r, h1, h2, h3⟩
            exact ⟨r, h1, own_base h2 (Nat.zero_le _), h.trans (h3.mono h.size)⟩
          have HHA : Hid (∀ w' r, Below wr.heap.size wr w' → w'.ownsRow 0 3 1 r ul.length (nats ul) → Calls Tryd.prog 84 #[.agg (setL S).toArray, r] w' fun e w'' => e = .returned (.bool (Code.hasAll (Code.addAll Rj vals) ul)) ∧ Below wr.heap.size wr w'') := hide fun w' r h hr => by
            refine (hasAll_any S hS ul HUL6.out hul r 0 w' hr).mono ?_
            rintro e w'' ⟨h1, h2⟩
            rw [HSA.out] at h1
            exact ⟨h1, h.trans (h2.mono h.size)⟩
          have hu := Tryd.underlying159
          have hi60 := setSize S hS
          have hl60 : (setL S).length = 60 := by rw [setL_length]; exact hS
          generalize hsx : Code.hasAll (Code.addAll Rj vals) ul = sx at *
          go_wp2_with fail
          go_region_held3 (fun w' => Below wr.heap.size wr w' ∧ w'.rangeAt (b6 + 1) 0 (setL S)) (first | assumption | (go_split_ands; (try dsimp only); refine ⟨?_, HRG9.out _ ?_⟩ <;> (repeat' (first | assumption | exact Below.refl _ _ | apply Below.drew)))) (first | (go_at_call 86; refine (HUP.out _ ?_).mono ?_; (repeat' (first | assumption | exact Below.refl _ _ | apply Below.drew)); rintro e w10 ⟨r, rfl, hrow, hb10⟩) | (go_at_call 84; refine (HHA.out _ _ ?_ ?_).mono ?_; (exact hb10); (exact hrow); rintro e w11 ⟨rfl, hb11⟩))
          have f1 := e1 w11 hb11
          clear e1 HRG9 HUP HHA hi60 hl60 hu
          have hg11' : wo.grownBy w11 (some (b6 + 1)) := grown_trans hgk (grown_below hb11)
          have hb11w : Below w.heap.size w w11 := hbk.trans (hb11.mono hbk.size)
          have hxs11 := kept_block hxs4 hg11' (by omega)
          have hxa := blk_cell hxs11 0 _ rfl
          have hxb := blk_cell hxs11 1 _ rfl
          clear hg11'
          cases sx with
          | false =>
            clear HNJ2 hsx
            go_wp2_with fail
            refine (failLast_form args bks (some ⟨gb, 0, none⟩) c base w11 (HF.out.below hb11w) hn HLL.out j hlt).mono ?_
            rintro e w20 ⟨⟨l, rfl⟩, hb20⟩
            go_wp2
            exact ⟨rfl, ⟨l, rfl⟩, hb11w.trans (hb20.mono hb11w.size)⟩
          | true =>
          clear hxa hxb hxs11 hb11w hsx
          go_wp2_with fail
          refine (HTA.out w11).mono ?_
          rintro e w12 ⟨v12, rfl, hown12, hb12⟩
          have hbq : Below wr.heap.size wr w12 := hb11.trans (hb12.mono hb11.size)
          have hg12 : wo.grownBy w12 (some (b6 + 1)) := grown_trans hgk (grown_below hbq)
          have hM12 : setRow w12 (b6 + 1) S := (hbq.block _ hMl).trans hMk
          have hz11 := hb11.size
          have hzk := hgk.size
          clear f1 hb11 hb12 hbq hcpk hMk hgk hbk
          obtain ⟨p12, c12, rfl, _⟩ := nats_open hown12
          go_wp2_with fail
          rename World => wz
          have hbwz := below_of_grown hbw4 hg12 (by omega)
          have hxsz := kept_block hxs4 hg12 (by omega)
          have hEmz := hEm4.kept hg12 (by simp; omega)
          have hrsz := kept_block hrs4 hg12 (by omega)
          have hmbz := hEmz.lt
          go_loopw [66] (fun i ws => ∃ k : Nat, k ≤ tl.length ∧ i = .int .i64 k ∧ Below wz.heap.size wz ws ∧ Hid (∀ k' (hk : k' < tl.length) (ht : tl[k'] < bks.length), k' < k → Code.PhisMade bks[tl[k']].values ((Code.edges bks).places j k') (Code.addAll Rj vals))) (fun i _ => tl.length - (intOf i).toNat)
          case atStart => exact ⟨0, by omega, rfl, Below.refl _ _, hide fun k' h h' h'' => by omega⟩
          case round =>
            obtain ⟨k, hk, rfl, hbz, hsp⟩ := hrel
            have hbwr : Below w.heap.size w wr := hbwz.trans (hbz.mono hbwz.size)
            by_cases hkt : k < tl.length
            · obtain ⟨p13, c13, hpe, hval13⟩ := nats_open (own_below hown12 hbz)
              simp only [Value.slice.injEq] at hpe
              obtain ⟨rfl, _, rfl⟩ := hpe
              obtain ⟨g13, rfl, ct⟩ := hval13 k hkt
              have htk := htb tl[k] (List.getElem_mem hkt)
              have HN : Hid (Code.PhisMade bks[tl[k]].values ((Code.edges bks).places j k) (Code.addAll Rj vals) → ∀ k' (hk : k' < tl.length) (ht : tl[k'] < bks.length), k' < k + 1 → Code.PhisMade bks[tl[k']].values ((Code.edges bks).places j k') (Code.addAll Rj vals)) := hide fun e k' h h' h'' => by
                by_cases hq : k' < k
                · exact hsp.out k' h h' hq
                · obtain rfl : k' = k := by omega
                  exact e
              have HPK := hide (HPHJ.out k hkt htk)
              clear hsp
              have hlenT := (HL.out bks[tl[k]] (List.getElem_mem htk)).1
              have hx0 : ∀ w', Below wr.heap.size wr w' → w'.cell? ⟨w.heap.size, 0, none⟩ = some (.int .i64 (args : Nat)) := fun w' h => blk_cell ((h.block _ (Nat.lt_of_lt_of_le (lt_of_block hxsz) hbz.size)).trans ((hbz.block _ (lt_of_block hxsz)).trans hxsz)) 0 _ rfl
              have hx1 : ∀ w', Below wr.heap.size wr w' → w'.cell? ⟨w.heap.size, 1, none⟩ = some (.slice (some ⟨gb, 0, none⟩) bks.length c) := fun w' h => blk_cell ((h.block _ (Nat.lt_of_lt_of_le (lt_of_block hxsz) hbz.size)).trans ((hbz.block _ (lt_of_block hxsz)).trans hxsz)) 1 _ rfl
              have HRG9 : Hid (∀ w', Below wr.heap.size wr w' → w'.rangeAt (b6 + 1) 0 (setL S)) := hide fun w' h => setRow.range (w := w') ((h.block _ (Nat.lt_of_lt_of_le (lt_of_block hM12) hbz.size)).trans ((hbz.block _ (lt_of_block hM12)).trans hM12))
              have hlook : ∀ w', Below wr.heap.size wr w' → (Instr.lookup 128 (.map (some mb)) (.agg #[.int .i64 (j : Nat), .int .i64 (k : Nat)]) false).run Tryd.prog w' = .ok (.int .i64 ((Code.edges bks).places j k : Nat)) w' := fun w' h => ((hEmz.below hbz).below h).look j k (by omega) (by omega)
              by_cases hpm : Code.PhisMade bks[tl[k]].values ((Code.edges bks).places j k) (Code.addAll Rj vals)
              case neg =>
                have HCN : Hid (∀ w', Below wr.heap.size wr w' → Calls Tryd.prog 87 #[.agg #[.int .i64 (args : Nat), .slice (some ⟨gb, 0, none⟩) bks.length c], .int .i64 (tl[k] : Nat), .int .i64 ((Code.edges bks).places j k : Nat), .agg (setL S).toArray] w' fun e w'' => FailsB w' e w'') := hide fun w' h =>
                  phisMade_no args bks (some ⟨gb, 0, none⟩) c base w' (HF.out.below (hbwr.trans (h.mono hbwr.size))) tl[k] htk hn HLL.out _ S hS HPK.out (by rw [HSA.out]; exact hpm)
                have hu := Tryd.underlying159
                have hi60 := setSize S hS
                have hl60 : (setL S).length = 60 := by rw [setL_length]; exact hS
                generalize (Code.edges bks).places j k = pl at *
                generalize tl[k] = tk at *
                clear hval13 hpm HN HPK HNJ2
                go_wp2_with fail
                have hSS : Below wr.heap.size wr wr.drew ∧ wr.drew.rangeAt (b6 + 1) 0 (setL S) := ⟨Below.drew (Below.refl _ _), HRG9.out _ (Below.drew (Below.refl _ _))⟩
                refine wp_region_held_drew (S := fun w' => Below wr.heap.size wr w' ∧ w'.rangeAt (b6 + 1) 0 (setL S)) (by kernel_rfl) hSS (fun hHeld => ?_)
                refine wpAnyH_take (i := 0) (v := .agg #[.int .i64 (args : Nat), .slice (some ⟨gb, 0, none⟩) bks.length c]) rfl (by kernel_rfl) (by kernel_rfl) (by kernel_rfl) (fun _ _ _ h => h) (Or.inl ⟨by rfl, fun w' h => by have h1 := hx0 w' h.1; have h2 := hx1 w' h.1; go_simp⟩) hSS ?_
                try simp only [Act.put, List.getElem_toArray, List.getElem_cons_zero, List.setIfInBounds_toArray, List.set_cons_zero, List.set_cons_succ]
                refine wpAnyH_take (i := 1) (v := .int .i64 (tk : Nat)) rfl (by kernel_rfl) (by kernel_rfl) (by kernel_rfl) (fun _ _ _ h => h) (Or.inl ⟨by rfl, fun w' h => by  go_simp⟩) hSS ?_
                try simp only [Act.put, List.getElem_toArray, List.getElem_cons_zero, List.getElem_cons_succ, List.setIfInBounds_toArray, List.set_cons_zero, List.set_cons_succ]
                refine wpAnyH_take (i := 2) (v := .map (some mb)) rfl (by kernel_rfl) (by kernel_rfl) (by kernel_rfl) (fun _ _ _ h => h) (Or.inl ⟨by rfl, fun w' h => by  go_simp⟩) hSS ?_
                try simp only [Act.put, List.getElem_toArray, List.getElem_cons_zero, List.getElem_cons_succ, List.setIfInBounds_toArray, List.set_cons_zero, List.set_cons_succ]
                refine wpAnyH_take (i := 3) (v := .int .i64 (j : Nat)) rfl (by kernel_rfl) (by kernel_rfl) (by kernel_rfl) (fun _ _ _ h => h) (Or.inl ⟨by rfl, fun w' h => by  go_simp⟩) hSS ?_
                try simp only [Act.put, List.getElem_toArray, List.getElem_cons_zero, List.getElem_cons_succ, List.setIfInBounds_toArray, List.set_cons_zero, List.set_cons_succ]
                refine wpAnyH_take (i := 4) (v := .int .i64 (k : Nat)) rfl (by kernel_rfl) (by kernel_rfl) (by kernel_rfl) (fun _ _ _ h => h) (Or.inl ⟨by rfl, fun w' h => by  go_simp⟩) hSS ?_
                try simp only [Act.put, List.getElem_toArray, List.getElem_cons_zero, List.getElem_cons_succ, List.setIfInBounds_toArray, List.set_cons_zero, List.set_cons_succ]
                refine wpAnyH_take (i := 5) (v := .agg #[.int .i64 (j : Nat), .int .i64 (k : Nat)]) rfl (by kernel_rfl) (by kernel_rfl) (by kernel_rfl) (fun _ _ _ h => h) (Or.inl ⟨by rfl, fun w' h => by  go_simp⟩) hSS ?_
                try simp only [Act.put, List.getElem_toArray, List.getElem_cons_zero, List.getElem_cons_succ, List.setIfInBounds_toArray, List.set_cons_zero, List.set_cons_succ]
                refine wpAnyH_take (i := 6) (v := .int .i64 (pl : Nat)) rfl (by kernel_rfl) (by kernel_rfl) (by kernel_rfl) (fun _ _ _ h => h) (Or.inl ⟨by rfl, fun w' h => by have h1 := hlook w' h.1; go_simp⟩) hSS ?_
                try simp only [Act.put, List.getElem_toArray, List.getElem_cons_zero, List.getElem_cons_succ, List.setIfInBounds_toArray, List.set_cons_zero, List.set_cons_succ]
                refine wpAnyH_take (i := 7) (v := .agg (setL S).toArray) rfl (by kernel_rfl) (by kernel_rfl) (by kernel_rfl) (fun _ _ _ h => h) (yieldsIf_load_mid (by rfl) 159 _ rfl (b6 + 1) 0 rfl (setL S) _ (fun w' h => h.2) hu rfl hi60) hSS ?_
                try simp only [Act.put, List.getElem_toArray, List.getElem_cons_zero, List.getElem_cons_succ, List.setIfInBounds_toArray, List.set_cons_zero, List.set_cons_succ]
                refine wpAnyH_ready (rs := [8]) (by kernel_rfl) (by simp) ?_
                refine AllReadyH.cons rfl (fun K hK => ?_) AllReadyH.nil
                rw [if_pos (by rfl)]
                go_wp2_with fail
                refine (HCN.out wr.drew hSS.1).mono ?_
                rintro e w20 ⟨⟨l, rfl⟩, hb20⟩
                go_wp2
                exact ⟨rfl, ⟨l, rfl⟩, hbwr.trans ((undrewB hb20).mono hbwr.size)⟩
              have HPM := hide hpm
              rw [← HSA.out] at HPM
              have HN' := hide (HN.out hpm)
              clear hpm HN HPK
              have HCP : Hid (∀ w', Below wr.heap.size wr w' → Calls Tryd.prog 87 #[.agg #[.int .i64 (args : Nat), .slice (some ⟨gb, 0, none⟩) bks.length c], .int .i64 (tl[k] : Nat), .int .i64 ((Code.edges bks).places j k : Nat), .agg (setL S).toArray] w' fun e w'' => e = .returned (.tuple #[]) ∧ Below wr.heap.size wr w'') := hide fun w' h => by
                refine (phisMade_ok args bks (some ⟨gb, 0, none⟩) c base w' (HF.out.below (hbwr.trans (h.mono hbwr.size))) tl[k] htk hlenT _ S hS HPM.out).mono ?_
                rintro e w'' ⟨h1, h2⟩
                exact ⟨h1, h.trans (h2.mono h.size)⟩
              have hu := Tryd.underlying159
              have hi60 := setSize S hS
              have hl60 : (setL S).length = 60 := by rw [setL_length]; exact hS
              generalize (Code.edges bks).places j k = pl at *
              generalize tl[k] = tk at *
              clear hval13
              go_wp2_with fail
              go_region_held3 (fun w' => Below wr.heap.size wr w' ∧ w'.rangeAt (b6 + 1) 0 (setL S)) (first | assumption | (go_split_ands; (try dsimp only); refine ⟨?_, HRG9.out _ ?_⟩ <;> (repeat' (first | assumption | exact Below.refl _ _ | apply Below.drew)))) (first | (go_at_call 87; refine (HCP.out _ ?_).mono ?_; (repeat' (first | assumption | exact Below.refl _ _ | apply Below.drew)); rintro e w14 ⟨rfl, hb14⟩))
              go_wp2
              exact ⟨⟨k + 1, by omega, by go_num, hbz.trans (hb14.mono hbz.size), HN'⟩, by simp [intOf]; omega⟩
            · have HNN := hide (HNJ2.out ⟨HVOK.out, trivial, fun k' hk' ht' => hsp.out k' hk' ht' (by omega)⟩)
              clear hsp HNJ2
              go_wp2
              refine ⟨⟨j + 1, by omega, by go_num, (hbz.block _ (lt_of_block hrsz)).trans hrsz, hEmz.below hbz, (hbz.block _ (lt_of_block hxsz)).trans hxsz, hbwr, HNN⟩, by simp [intOf]; omega⟩
    · exact absurd (fun j' h h' => hspo.out j' h h' (by omega)) HAO.out
end Go.Proofs.YtedkjanogjglkaaDoor


namespace Go.Proofs.YtedkjanogjglkaaDoor
open Go.RowKit

namespace Code
/-- What every function that is read has. -/
structure Wf (bks : List Blk) : Prop where
  most : bks.length ≤ 8
  some : 0 < bks.length
  small : Small bks
  phis : ∀ b ∈ bks, ∀ v ∈ b.values, ∀ of, v.thing = .phi of → ∀ x ∈ of, x < 60
end Code

theorem FailsB.pre {w w1 w2 : World} {e : Ending} (hb : Below w.heap.size w w1) (h : FailsB w1 e w2) : FailsB w e w2 := ⟨h.1, hb.trans (h.2.mono hb.size)⟩

set_option maxHeartbeats 2000000 in
theorem requireRight_no (args : Nat) (bks : List Code.Blk) (p : Option Addr) (c : Nat) (base : Nat) (w : World) (hf : RepBlks w base (.slice p bks.length c) bks) (hw : Code.Wf bks) (hr : ¬ Code.Right bks) :
    Calls Tryd.prog 54 #[.agg #[.int .i64 (args : Nat), .slice p bks.length c]] w fun e w' => FailsB w e w' := by
  have HF := hide hf
  have HW := hide hw
  have HR := hide hr
  clear hf hr hw
  go_enter Tryd.func54, Tryd.ntmps54
  go_wp2_with fail
  generalize hw0 : w.alloc _ = w0
  have hx0 : w0.heap[w.heap.size]? = some (.cells #[.int .i64 (args : Nat), .slice p bks.length c] 47) := by rw [← hw0]; exact heap_alloc_new w _
  have hb0 : Below w.heap.size w w0 := by rw [← hw0]; exact below_al (Below.refl _ _) _
  clear hw0
  by_cases h1 : Code.Once noNumber bks
  case neg =>
    have H1 := hide h1
    refine (madeOnce_no args bks p c base w0 (HF.out.below hb0) HW.out.most (fun b hb => ⟨(HW.out.small b hb).1, fun v hv => ((HW.out.small b hb).2.1 v hv).1⟩) H1.out).mono ?_
    rintro e w1 ⟨⟨l, rfl⟩, hb1⟩
    clear h1
    go_wp2
    exact ⟨rfl, ⟨l, rfl⟩, hb0.trans (hb1.mono hb0.size)⟩
  have H1 := hide h1
  clear h1
  refine (madeOnce_ok args bks p c base w0 (HF.out.below hb0) HW.out.most (fun b hb => ⟨(HW.out.small b hb).1, fun v hv => ((HW.out.small b hb).2.1 v hv).1⟩) H1.out).mono ?_
  rintro e w1 ⟨rfl, hb1⟩
  have hx1 := (hb1.block _ (lt_of_block hx0)).trans hx0
  have hbw1 : Below w.heap.size w w1 := hb0.trans (hb1.mono hb0.size)
  have c0 := blk_cell hx1 0 _ rfl
  have c1 := blk_cell hx1 1 _ rfl
  clear hx0 hb0 hb1
  go_wp2_with fail
  by_cases h2 : ∀ b ∈ bks, ∀ t ∈ Code.tg b.last, 1 ≤ t ∧ t < bks.length
  case neg =>
    have H2 := hide h2
    clear h2
    refine (targets_no args bks p c base w1 (HF.out.below hbw1) HW.out.most (fun b hb => (HW.out.small b hb).1) H2.out).mono ?_
    rintro e w2 ⟨⟨l, rfl⟩, hb2⟩
    go_wp2
    exact ⟨rfl, ⟨l, rfl⟩, hbw1.trans (hb2.mono hbw1.size)⟩
  have H2 := hide h2
  clear h2
  refine (targets_ok args bks p c base w1 (HF.out.below hbw1) HW.out.most H2.out).mono ?_
  rintro e w2 ⟨rfl, hb2⟩
  have hx2 := (hb2.block _ (lt_of_block hx1)).trans hx1
  have hbw2 : Below w.heap.size w w2 := hbw1.trans (hb2.mono hbw1.size)
  clear c0 c1 hx1 hbw1 hb2
  have c0 := blk_cell hx2 0 _ rfl
  have c1 := blk_cell hx2 1 _ rfl
  go_wp2_with fail
  by_cases h3 : Code.reachF 9 (Code.tgs bks) (List.replicate bks.length false) 0 = List.replicate bks.length true
  case neg =>
    have H3 := hide h3
    clear h3
    refine (reached_no args bks p c base w2 (HF.out.below hbw2) HW.out.most HW.out.some (fun b hb => (HW.out.small b hb).1) (fun b hb t ht => (H2.out b hb t ht).2) H3.out).mono ?_
    rintro e w3 ⟨⟨l, rfl⟩, hb3⟩
    go_wp2
    exact ⟨rfl, ⟨l, rfl⟩, hbw2.trans (hb3.mono hbw2.size)⟩
  have H3 := hide h3
  clear h3
  refine (reached_ok args bks p c base w2 (HF.out.below hbw2) HW.out.most HW.out.some (fun b hb t ht => (H2.out b hb t ht).2) H3.out).mono ?_
  rintro e w3 ⟨rfl, hb3⟩
  have hx3 := (hb3.block _ (lt_of_block hx2)).trans hx2
  have hbw3 : Below w.heap.size w w3 := hbw2.trans (hb3.mono hbw2.size)
  clear c0 c1 hx2 hbw2 hb3
  have c0 := blk_cell hx3 0 _ rfl
  have c1 := blk_cell hx3 1 _ rfl
  go_wp2_with fail
  by_cases h4 : Code.PhisOk bks
  case neg =>
    have H4 := hide h4
    clear h4
    refine (phis_no args bks p c base w3 (HF.out.below hbw3) HW.out.most (fun b hb => (HW.out.small b hb).1) (fun b hb t ht => (H2.out b hb t ht).2) H4.out).mono ?_
    rintro e w4 ⟨⟨l, rfl⟩, hb4⟩
    go_wp2
    exact ⟨rfl, ⟨l, rfl⟩, hbw3.trans (hb4.mono hbw3.size)⟩
  have H4 := hide h4
  clear h4
  refine (phis_ok args bks p c base w3 (HF.out.below hbw3) HW.out.most (fun b hb => (HW.out.small b hb).1) (fun b hb t ht => (H2.out b hb t ht).2) H4.out).mono ?_
  rintro e w4 ⟨rfl, hb4⟩
  have hx4 := (hb4.block _ (lt_of_block hx3)).trans hx3
  have hbw4 : Below w.heap.size w w4 := hbw3.trans (hb4.mono hbw3.size)
  clear c0 c1 hx3 hbw3 hb4
  have c0 := blk_cell hx4 0 _ rfl
  have c1 := blk_cell hx4 1 _ rfl
  have H5 : Hid (¬ ∀ A, A.length = bks.length → All60 A → Code.Iter bks (Code.startTo bks.length bks.length) A → Code.AheadOk bks A) := hide fun h => HR.out ⟨HW.out.most, HW.out.some, HW.out.small, H1.out, H2.out, H3.out, H4.out, h⟩
  have H6 : Hid (∀ j (h : j < bks.length) k (hk : k < (Code.tg bks[j].last).length) (ht : (Code.tg bks[j].last)[k] < bks.length), ∀ v ∈ bks[(Code.tg bks[j].last)[k]].values, ∀ of, v.thing = .phi of → ∃ h : (Code.edges bks).places j k < of.length, of[(Code.edges bks).places j k] < 60) := hide fun j h k hk ht v hv of e => by
    have h1 := Code.place_lt bks j k h hk ht
    have h2 := (H4.out _ ht v hv of e).2
    have h3 : (Code.edges bks).places j k < of.length := by omega
    exact ⟨h3, HW.out.phis _ (List.getElem_mem ht) v hv of e _ (List.getElem_mem h3)⟩
  go_wp2_with fail
  refine (madeAhead_no args bks p c base w4 (HF.out.below hbw4) HW.out.most HW.out.some HW.out.small (fun b hb t ht => (H2.out b hb t ht).2) H6.out H5.out).mono ?_
  rintro e w5 ⟨⟨l, rfl⟩, hb5⟩
  go_wp2
  exact ⟨rfl, ⟨l, rfl⟩, hbw4.trans (hb5.mono hbw4.size)⟩

/-- It gave up: why; where: some line. -/
def FailsW (w : World) (why : Int) (e : Ending) (w' : World) : Prop :=
  (∃ l : Int, e = .panicked [{ v := .iface 82 (.agg #[.int .i64 why, .int .i64 l]), recovered := false }]) ∧ Below w.heap.size w w'

set_option maxHeartbeats 2000000 in
theorem read_form (s : List UInt8) (f : Code.Fn) (w : World) (hs : s.length ≤ 1500) (ht : Tab w) (hf : Code.FnIs s f) (hw : Code.Wf f.blocks) (hr : ¬ Code.Right f.blocks) :
    Calls Tryd.prog 43 #[.string (bs s)] w fun e w' => FailsW w 2 e w' := by
  have e1 := bs_size s
  have hs' : ¬ (1500 : Int) < (s.length : Int) := by omega
  have HF := hide hf
  have HR := hide hr
  have HT := hide ht
  have HW := hide hw
  have hp := ht.pos
  clear hf hr ht hw
  go_enter Tryd.func43, Tryd.ntmps43
  go_wp2_with fail
  generalize hw0 : (w.alloc _).alloc _ = w0
  have hx0 : w0.heap[w.heap.size]? = some (.cells #[.int .i64 0, .slice none 0 0] 47) := by rw [← hw0]; exact stay_alloc (heap_alloc_new w _)
  have hr0 : RdF w0 (w.heap.size + 1) s 1 0 := by
    have h := heap_alloc_new (w.alloc (.cells #[.int .i64 0, .slice none 0 0] 47)) (.cells #[.string (bs s), .int .i64 1, .int .i64 1, .int .i64 0] 119)
    rw [alloc_size] at h
    rw [← hw0]; exact h
  have hb0 : Below w.heap.size w w0 := by rw [← hw0]; exact below_al (below_al (Below.refl _ _) _) _
  clear hw0
  refine (function_ok (w.heap.size + 1) s f 1 0 w0 hr0 (by omega) ⟨by omega, by omega⟩ (HT.out.below hb0) (by omega) HF.out).mono ?_
  rintro e w1 ⟨p, c, rfl, hrep1, hg1⟩
  have hbw1 : Below w.heap.size w w1 := below_of_grown hb0 hg1 (by omega)
  have HREP : Hid (RepBlks w1 w.heap.size (.slice p f.blocks.length c) f.blocks) := hide (hrep1.mono (fun _ _ _ h => own_base h hb0.size) (fun _ _ _ h => own_base h hb0.size) (fun _ _ _ h => own_base h hb0.size))
  clear hrep1 hg1 hb0 hr0 hx0
  go_wp2_with fail
  generalize hw2 : w1.alloc _ = w2
  have hb2 : Below w1.heap.size w1 w2 := by rw [← hw2]; exact below_al (Below.refl _ _) _
  clear hw2
  refine (requireRight_no f.args f.blocks p c w.heap.size w2 (HREP.out.below hb2) HW.out HR.out).mono ?_
  rintro e w3 ⟨⟨l, rfl⟩, hb3⟩
  have hb13 : Below w1.heap.size w1 w3 := hb2.trans (hb3.mono hb2.size)
  have hbw3 : Below w.heap.size w w3 := hbw1.trans (hb13.mono hbw1.size)
  clear hb2 hb3 hb13 hbw1 HREP
  go_wp2
  exact ⟨rfl, ⟨l, rfl⟩, hbw3⟩

set_option maxHeartbeats 2000000 in
theorem read_none (s : List UInt8) (w : World) (hs : s.length ≤ 1500) (ht : Tab w) (hf : ∀ f, ¬ Code.FnIs s f) :
    Calls Tryd.prog 43 #[.string (bs s)] w fun e w' => FailsW w 1 e w' := by
  have e1 := bs_size s
  have hs' : ¬ (1500 : Int) < (s.length : Int) := by omega
  have HF := hide hf
  have HT := hide ht
  have hp := ht.pos
  clear hf ht
  go_enter Tryd.func43, Tryd.ntmps43
  go_wp2_with fail
  generalize hw0 : (w.alloc _).alloc _ = w0
  have hr0 : RdF w0 (w.heap.size + 1) s 1 0 := by
    have h := heap_alloc_new (w.alloc (.cells #[.int .i64 0, .slice none 0 0] 47)) (.cells #[.string (bs s), .int .i64 1, .int .i64 1, .int .i64 0] 119)
    rw [alloc_size] at h
    rw [← hw0]; exact h
  have hb0 : Below w.heap.size w w0 := by rw [← hw0]; exact below_al (below_al (Below.refl _ _) _) _
  clear hw0
  refine (function_no (w.heap.size + 1) s 1 0 w0 hr0 (by omega) ⟨by omega, by omega⟩ (HT.out.below hb0) (by omega) HF.out).mono ?_
  rintro e w1 ⟨⟨l, rfl⟩, hg1⟩
  have hbw1 : Below w.heap.size w w1 := below_of_grown hb0 hg1 (by omega)
  go_wp2
  exact ⟨rfl, ⟨l, rfl⟩, hbw1⟩

set_option maxHeartbeats 2000000 in
theorem read_long (s : ByteArray) (w : World) (hs : 1500 < s.size) :
    Calls Tryd.prog 43 #[.string s] w fun e w' => FailsW w 1 e w' := by
  have hs' : (1500 : Int) < (s.size : Int) := by omega
  go_enter Tryd.func43, Tryd.ntmps43
  go_wp2
  exact ⟨rfl, ⟨0, rfl⟩, below_al (Below.refl _ _) _⟩
end Go.Proofs.YtedkjanogjglkaaDoor
