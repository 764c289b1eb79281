/-
  Parts of the proof: RStepN.
-/
import Derived.Test.YtedkjanogjglkaaGreatDoorP22
set_option maxRecDepth 100000
set_option maxHeartbeats 8000000
namespace Go.Proofs.YtedkjanogjglkaaGreatDoor
open Go.RowKit
open Go.Proofs.YtedkjanogjglkaaGreatDoor.Code (RTree Nm RSt Prs CRule Pair)
theorem step_name (args : Nat) (bks : List Code.Blk) (p : Pair) (pp : Option Addr) (c rk : Nat) (sv rv : Value) (b : Code.Blk) (v : Code.Val) (kn : Code.Known) (w : World) (hf : RepBlks w 0 (.slice pp bks.length c) bks) (hfine : Code.Fine bks) (hr : RepR w 0 p.rule rk sv rv) (hR : RuleIn p.rule) (hb : bks[p.block]? = some b) (hv : b.values[p.index]? = some v) (hkn : Code.fits (Code.things bks) p.rule.node v.num [] = some kn) (ha : args < 1000) (hi : TabI w) (ht : Tab w) (y : List UInt8) (hres : p.rule.result = .name y) :
  Calls Tryz.prog 77 #[.agg #[.int .i64 (args : Nat), .slice pp bks.length c], .agg #[.int .i64 (p.block : Nat), .int .i64 (p.index : Nat), .int .i64 (rk : Nat), sv, rv]] w fun e w' => StepPost args (Code.stepR args bks p) w e w' := by
 obtain ⟨hbi, rfl⟩ := List.getElem?_eq_some_iff.1 hb
 obtain ⟨hvk, rfl⟩ := List.getElem?_eq_some_iff.1 hv
 have hthk := Code.things_thOk hfine
 have hth := Code.thOf_things hfine.once
 have hnice := hfine.good
 have hx60 : bks[p.block].values[p.index].num < 60 := (hnice.vals _ (List.getElem_mem hbi) _ (List.getElem_mem hvk)).1
 have hkn2 := hkn
 rw [hR.ok.fits, Option.map_eq_some_iff] at hkn2
 obtain ⟨of0, hof0, hknof⟩ := hkn2
 have HSTEP : Hid (Code.stepR args bks p = (Code.stepB1 bks p bks[p.block].values[p.index].num kn).filter fun n => decide ((Code.wrF args n).length <= 1500)) := hide (by
  unfold Code.stepR
  rw [hb, Option.bind_some, hv, Option.bind_some, hkn, Option.bind_some])
 have HTH : Hid (∀ w1, Below w.heap.size w w1 -> Calls Tryz.prog 124 #[.agg #[.int .i64 (args : Nat), .slice pp bks.length c]] w1 fun e w' => ∃ tv, e = .returned (.agg tv.toArray) /\ ThsV w1 (Code.things bks) tv /\ Below w1.heap.size w1 w') := hide fun w1 h1 => by
  have h := things_any args bks pp c w1 (hf.below h1) (NiceB.fnOk hnice)
  rw [show Code.lastThing (bks.flatMap Code.Blk.values) = Code.things bks from hth] at h
  exact h
 have HAT : Hid (∀ w1, Below w.heap.size w w1 -> Calls Tryz.prog 126 #[.agg #[.int .i64 (args : Nat), .slice pp bks.length c], .agg #[.int .i64 (p.block : Nat), .int .i64 (p.index : Nat)]] w1 fun e w' => ∃ th, e = .returned (.agg #[.int .i64 (bks[p.block].values[p.index].num : Nat), th]) /\ ThingV w1 0 bks[p.block].values[p.index].thing th /\ Below w1.heap.size w1 w') := hide fun w1 h1 => at_any args p.block p.index bks pp c w1 (hf.below h1) hbi hvk
 have HPUT : Hid (∀ w1 vs l, Below w.heap.size w w1 -> RepVals w1 0 vs l -> l.length <= 100000 -> Calls Tryz.prog 127 #[.agg #[.int .i64 (args : Nat), .slice pp bks.length c], .agg #[.int .i64 (p.block : Nat), .int .i64 (p.index : Nat)], vs] w1 fun e w' => ∃ p' c', e = .returned (.agg #[.int .i64 (args : Nat), .slice p' bks.length c']) /\ RepBlks w' 0 (.slice p' bks.length c') (Code.putB p.block p.index l bks) /\ Below w1.heap.size w1 w') := hide fun w1 vs l h1 hrv hl => put_any args p.block p.index bks l pp c vs w1 (hf.below h1) hnice.few hbi (Nat.le_trans (hnice.short _ (List.getElem_mem hbi)) (by omega)) hvk hrv hl
 obtain ⟨T2, x2, hrve⟩ := hr.2.1.shape
 obtain ⟨k', kids', hnode, hke, _, sp, sn, sc, hsve⟩ := hr.1.op_eq
 have HFT : Hid (∀ w1 tb tv, Below w.heap.size w w1 -> thRow w1 tb tv -> ThsV w1 (Code.things bks) tv -> Calls Tryz.prog 125 #[.agg #[.int .i64 (rk : Nat), sv, rv], .pointer (some ⟨tb, 0, none⟩), .int .i64 (bks[p.block].values[p.index].num : Nat)] w1 fun e w' => FittedPost (some of0) p.rule.names.length tb w1 e w') := hide fun w1 tb tv h1 hr1 hr2 => by
  have h := fitted_any (Code.things bks) tb p.rule rk sv rv bks[p.block].values[p.index].num p.rule.names.length 0 w1 ⟨tv, hr1, hr2.1, hr2.2⟩ hthk hR.ok.dist (hr.kept (keeps_below h1) (Nat.le_refl _)) hR.ok.trav hR.few hx60 ⟨_, _, hrve⟩
  rw [hof0] at h
  exact h
 have HREP := hide hr
 have HRIN := hide hR
 have HFINE := hide hfine
 have HI := hide hi
 have HT := hide ht
 have HOF := hide hof0
 have HKN := hide hknof
 have HTHK := hide hthk
 have HB := hide hb
 have HV := hide hv
 have hA := ha
 subst hrve hsve
 clear hf hr hR hfine hkn hi ht hof0 hknof hthk hth hnice hb hv hnode hke
 generalize hxe : bks[p.block].values[p.index].num = x at *
 have HXE := hide hxe
 clear hxe
 have hrr := HREP.out.2.1
 rw [hres] at hrr
 obtain ⟨si, hsi, hlr⟩ := hrr
 simp only [Value.iface.injEq] at hsi
 obtain ⟨rfl, rfl⟩ := hsi
 have HLR := hide (HRIN.out.known (of := of0))
 have HRES := hide hres
 have HLRN := hide hlr
 have t1 := rNm_name
 clear hres hlr HREP
 go_enter Tryz.func77, Tryz.ntmps77
 go_wp2_with fail
 have hs0 := StB.new w args pp bks.length c p.block p.index rk (.slice sp sn sc) (.iface 225 (.agg #[.int .i64 si]))
 have hb0 : Below w.heap.size w (((w.alloc (.cells #[.int .i64 (args : Nat), .slice pp bks.length c] 78)).alloc (.cells #[.int .i64 (p.block : Nat), .int .i64 (p.index : Nat), .int .i64 (rk : Nat), .slice sp sn sc, .iface 225 (.agg #[.int .i64 si])] 151)).alloc (.cells #[.int .i64 0, .slice none 0 0] 78)) := below_al (below_al (below_al (Below.refl _ _) _) _) _
 generalize ((w.alloc (.cells #[.int .i64 (args : Nat), .slice pp bks.length c] 78)).alloc (.cells #[.int .i64 (p.block : Nat), .int .i64 (p.index : Nat), .int .i64 (rk : Nat), .slice sp sn sc, .iface 225 (.agg #[.int .i64 si])] 151)).alloc (.cells #[.int .i64 0, .slice none 0 0] 78) = w0 at *
 refine (HTH.out w0 hb0).mono ?_
 rintro e w1 ⟨tv, rfl, htv, hb1⟩
 have hs1 := hs0.below hb1
 have hbw1 : Below w.heap.size w w1 := hb0.trans (hb1.mono hb0.size)
 have hl60 := htv.1
 have HS' := hide (thSize' tv hl60)
 have HO := hide htv.ones
 obtain ⟨w2, hW2⟩ : ∃ w2, w2 = (w1.alloc (.cells #[.nilIface, .nilIface, .nilIface, .nilIface, .nilIface, .nilIface, .nilIface, .nilIface, .nilIface, .nilIface, .nilIface, .nilIface, .nilIface, .nilIface, .nilIface, .nilIface, .nilIface, .nilIface, .nilIface, .nilIface, .nilIface, .nilIface, .nilIface, .nilIface, .nilIface, .nilIface, .nilIface, .nilIface, .nilIface, .nilIface, .nilIface, .nilIface, .nilIface, .nilIface, .nilIface, .nilIface, .nilIface, .nilIface, .nilIface, .nilIface, .nilIface, .nilIface, .nilIface, .nilIface, .nilIface, .nilIface, .nilIface, .nilIface, .nilIface, .nilIface, .nilIface, .nilIface, .nilIface, .nilIface, .nilIface, .nilIface, .nilIface, .nilIface, .nilIface, .nilIface] 216)).setCells w1.heap.size 0 tv.toArray.toList := ⟨_, rfl⟩
 have hr2 : thRow w2 w1.heap.size tv := by rw [hW2]; exact newTh w1 tv hl60
 have hb12 : Below w1.heap.size w1 w2 := by rw [hW2]; exact below_cells (below_al (Below.refl _ _) _) (Nat.le_refl _) _ _
 have HW2 : Hid ((w1.alloc (.cells #[.nilIface, .nilIface, .nilIface, .nilIface, .nilIface, .nilIface, .nilIface, .nilIface, .nilIface, .nilIface, .nilIface, .nilIface, .nilIface, .nilIface, .nilIface, .nilIface, .nilIface, .nilIface, .nilIface, .nilIface, .nilIface, .nilIface, .nilIface, .nilIface, .nilIface, .nilIface, .nilIface, .nilIface, .nilIface, .nilIface, .nilIface, .nilIface, .nilIface, .nilIface, .nilIface, .nilIface, .nilIface, .nilIface, .nilIface, .nilIface, .nilIface, .nilIface, .nilIface, .nilIface, .nilIface, .nilIface, .nilIface, .nilIface, .nilIface, .nilIface, .nilIface, .nilIface, .nilIface, .nilIface, .nilIface, .nilIface, .nilIface, .nilIface, .nilIface, .nilIface] 216)).setCells w1.heap.size 0 tv.toArray.toList = w2) := hide hW2.symm
 have HTHR : Hid ((w1.alloc (.cells #[.nilIface, .nilIface, .nilIface, .nilIface, .nilIface, .nilIface, .nilIface, .nilIface, .nilIface, .nilIface, .nilIface, .nilIface, .nilIface, .nilIface, .nilIface, .nilIface, .nilIface, .nilIface, .nilIface, .nilIface, .nilIface, .nilIface, .nilIface, .nilIface, .nilIface, .nilIface, .nilIface, .nilIface, .nilIface, .nilIface, .nilIface, .nilIface, .nilIface, .nilIface, .nilIface, .nilIface, .nilIface, .nilIface, .nilIface, .nilIface, .nilIface, .nilIface, .nilIface, .nilIface, .nilIface, .nilIface, .nilIface, .nilIface, .nilIface, .nilIface, .nilIface, .nilIface, .nilIface, .nilIface, .nilIface, .nilIface, .nilIface, .nilIface, .nilIface, .nilIface] 216)).there w1.heap.size 0 tv.toArray.size) := by
  have h := newThThere w1
  rw [show 60 = tv.toArray.size by simp [hl60]] at h
  exact h
 have hs2 := hs1.below hb12
 have hb2 : Below w.heap.size w w2 := hbw1.trans (hb12.mono hbw1.size)
 have HTV2 := hide (htv.below (hb1.trans (hb12.mono hb1.size)))
 have q0 := blk_cell hs2.1 0 _ rfl
 have q1 := blk_cell hs2.1 1 _ rfl
 have q2 := blk_cell hs2.2.1 0 _ rfl
 have q3 := blk_cell hs2.2.1 1 _ rfl
 clear hW2 htv hs0 hb0 hb1 hs1 hbw1 hb12
 go_wp2_with (first | (refine wpList_store_mid rfl 216 _ _ rfl w1.heap.size 0 tv.toArray rfl rfl HTHR.out HS'.out HO.out ?_; rw [HW2.out]))
 generalize w1.heap.size = tb at *
 clear HTHR HW2 HS' HO q0 q1 q2 q3 HTH
 refine (HAT.out w2 hb2).mono ?_
 rintro e w3 ⟨tth, rfl, hthv, hb3⟩
 obtain ⟨T', tv', rfl⟩ := hthv.shape
 have hb24 : Below w2.heap.size w2 (w3.alloc (.cells #[.int .i64 (x : Nat), .iface T' tv'] 169)) := below_al hb3 _
 have hgv := heap_alloc_new w3 (.cells #[.int .i64 (x : Nat), .iface T' tv'] 169)
 have hs3 := hs2.below hb3
 have hs4 := hs2.below hb24
 have hb4 := hb2.trans (hb24.mono hb2.size)
 have hr4 : thRow _ tb tv := (hb24.block _ (lt_of_block hr2)).trans hr2
 have HTV4 := hide (HTV2.out.below hb24)
 have q2 := blk_cell hs3.2.1 2 _ rfl
 have q3 := blk_cell hs3.2.1 3 _ rfl
 have q4 := blk_cell hs3.2.1 4 _ rfl
 have l2 := lt_of_block hs3.2.1
 clear hthv hs2 hb2 hr2 HTV2 hb3 hb24 HAT
 go_wp2_with fail
 clear q2 q3 q4 l2 hs3
 generalize w3.alloc (.cells #[.int .i64 (x : Nat), .iface T' tv'] 169) = w4 at *
 generalize w3.heap.size = gv at *
 refine (HFT.out w4 tb tv hb4 hr4 HTV4.out).mono ?_
 rintro e w5 ⟨hb5, of', fv, ⟨ov, rfl, hov⟩, rfl, hof'⟩
 have hofe : of0 = of' /\ of'.length = p.rule.names.length /\ ∀ x ∈ of', x < 60 := by
  rcases hof' with ⟨h1, h2, h3⟩ | h1
  ·exact ⟨Option.some.inj h1, h2, h3⟩
  ·cases h1
 obtain ⟨rfl, hofl, hof60⟩ := hofe
 have HOFL := hide hofl
 have HOF60 := hide hof60
 clear hofl hof60
 have hs5 := hs4.below hb5
 have hbw5 := hb4.trans (hb5.mono hb4.size)
 have hgv5 := (hb5.block _ (lt_of_block hgv)).trans hgv
 have hr5 : thRow w5 tb tv := (hb5.block _ (lt_of_block hr4)).trans hr4
 have HTV5 := hide (HTV4.out.below hb5)
 have HOV := hide hov
 obtain ⟨op, oc, rfl⟩ := own_slice hov
 clear hof' hov hs4 hb4 hgv hr4 HTV4 hb5 HFT
 have hb57 := below_al (below_al (Below.refl w5.heap.size w5) (.cells #[.pointer (some ⟨tb, 0, none⟩), .slice op of0.length oc] 220)) (.cells #[.int .i64 0, .slice none 0 0] 78)
 have hgf7 : ((w5.alloc (.cells #[.pointer (some ⟨tb, 0, none⟩), .slice op of0.length oc] 220)).alloc (.cells #[.int .i64 0, .slice none 0 0] 78)).heap[w5.heap.size]? = some (.cells #[.pointer (some ⟨tb, 0, none⟩), .slice op of0.length oc] 220) := stay_alloc (heap_alloc_new w5 _)
 have hgn7 := heap_alloc_new (w5.alloc (.cells #[.pointer (some ⟨tb, 0, none⟩), .slice op of0.length oc] 220)) (.cells #[.int .i64 0, .slice none 0 0] 78)
 rw [alloc_size] at hgn7
 have hs7 := hs5.below hb57
 have hbw7 := hbw5.trans (hb57.mono hbw5.size)
 have hgv7 := (hb57.block _ (lt_of_block hgv5)).trans hgv5
 have hr7 : thRow _ tb tv := (hb57.block _ (lt_of_block hr5)).trans hr5
 have HTV7 := hide (HTV5.out.below hb57)
 have HOV7 := hide (own_below HOV.out hb57)
 have hs5l := lt_of_block hs5.2.2
 have hgvl := lt_of_block hgv5
 have HOVL := hide HOV.out.lt
 have l5 := lt_of_block hs5.2.1
 have l5' : w.heap.size < w5.heap.size := by omega
 have n5 : ¬ w.heap.size = w5.heap.size := by omega
 have n5' : ¬ w.heap.size + 1 = w5.heap.size := by omega
 have q4 := blk_cell hs5.2.1 4 _ rfl
 clear hs5 hbw5 hgv5 hr5 HTV5 HOV hb57
 go_wp2_with fail
 obtain ⟨sk, rfl, hskl, hknv⟩ := HLR.out HOFL.out (y, false) (by rw [HRES.out]; simp [RTree.names]) si HLRN.out
 have hb78 := below_al (Below.refl _ ((w5.alloc (.cells #[.pointer (some ⟨tb, 0, none⟩), .slice op of0.length oc] 220)).alloc (.cells #[.int .i64 0, .slice none 0 0] 78))) (.cells #[.int .i64 (sk : Nat)] 225)
 have hnm8 := heap_alloc_new ((w5.alloc (.cells #[.pointer (some ⟨tb, 0, none⟩), .slice op of0.length oc] 220)).alloc (.cells #[.int .i64 0, .slice none 0 0] 78)) (.cells #[.int .i64 (sk : Nat)] 225)
 rw [alloc_size, alloc_size] at hnm8
 have hs8 := hs7.below hb78
 have hbw8 := hbw7.trans (hb78.mono hbw7.size)
 have hgv8 := (hb78.block _ (lt_of_block hgv7)).trans hgv7
 have hgf8 := (hb78.block _ (lt_of_block hgf7)).trans hgf7
 have hgn8 := (hb78.block _ (lt_of_block hgn7)).trans hgn7
 have HOV8 := hide (own_below HOV7.out hb78)
 generalize ((w5.alloc (.cells #[.pointer (some ⟨tb, 0, none⟩), .slice op of0.length oc] 220)).alloc (.cells #[.int .i64 0, .slice none 0 0] 78)).alloc (.cells #[.int .i64 (sk : Nat)] 225) = w8 at *
 have hgnl : w.heap.size <= w5.heap.size + 1 := by omega
 have hgn2 : w.heap.size + 1 + 1 <= w5.heap.size := by omega
 generalize hgnE : w5.heap.size + 1 = gn at *
 generalize w5.heap.size = gf at *
 clear hs7 hbw7 hgv7 hgf7 hgn7 HOV7 hb78 l5 l5' n5 n5' q4 hr7 HTV7
 have hknv' : Code.knownV kn y = of0[sk] := by rw [<- HKN.out]; exact hknv
 have hk60 : ∀ z, Code.knownV kn z < 60 := fun z => by rw [<- HKN.out]; exact Code.knownV_lt HOF60.out z
 have hnr : ¬ Code.noRoom bks p kn := fun h => h.1 y HRES.out
 have hIe : Code.stepI bks p x kn = Code.renB x of0[sk] (Code.putB p.block p.index [] bks) := by
  unfold Code.stepI
  rw [HRES.out]
  simp only [hknv']
 have HSB : Hid (Code.stepB1 bks p x kn = some (Code.sweep (Code.renB x of0[sk] (Code.putB p.block p.index [] bks)))) := hide (by rw [Code.stepB1_is hnr, hIe])
 have HIF : Hid (Code.Fine (Code.renB x of0[sk] (Code.putB p.block p.index [] bks))) := hide (by
  have h := Code.stepI_fine HFINE.out HRIN.out.ok.fineR HB.out HV.out hk60 hnr
  rw [HXE.out, hIe] at h
  exact h)
 have HIL : Hid ((Code.renB x of0[sk] (Code.putB p.block p.index [] bks)).length = bks.length) := hide (by simp [Code.renB, Code.putB])
 have hpl : (Code.putB p.block p.index [] bks).length = bks.length := by simp [Code.putB]
 have HFN := hide (NiceB.fnIn (Code.putB_good HFINE.out.good (i := p.block) (k := p.index) (l := []) (by simp) (by simp) (fun b hb => Nat.le_trans (HFINE.out.short b hb) (by omega))))
 have HRN : Hid (∀ w1 p' c', RepBlks w1 0 (.slice p' bks.length c') (Code.putB p.block p.index [] bks) -> Calls Tryz.prog 128 #[.agg #[.int .i64 (args : Nat), .slice p' bks.length c'], .int .i64 (x : Nat), .int .i64 (of0[sk] : Nat)] w1 fun e w' => ∃ p'' c'', e = .returned (.agg #[.int .i64 (args : Nat), .slice p'' bks.length c'']) /\ RepBlks w' 0 (.slice p'' bks.length c'') (Code.renB x of0[sk] (Code.putB p.block p.index [] bks)) /\ Below w1.heap.size w1 w') := hide fun w1 p' c' h => by
  have h2 := Renamed_any args x of0[sk] (Code.putB p.block p.index [] bks) p' c' w1 (by rw [hpl]; exact h) HFN.out
  rw [hpl] at h2
  exact h2
 obtain ⟨op', oc', hoe, hcell⟩ := nats_open HOV8.out
 simp only [Value.slice.injEq] at hoe
 obtain ⟨rfl, _, rfl⟩ := hoe
 obtain ⟨go, rfl, hoc⟩ := hcell sk hskl
 have hgo : go ≠ gn := by have := (HOVL.out go rfl).2; omega
 have hskl' : (sk : Int) < (of0.length : Int) := by omega
 generalize Code.renB x of0[sk] (Code.putB p.block p.index [] bks) = I at *
 generalize of0[sk] = ofs at *
 clear hcell hknv hknv' hk60 hnr hIe hpl HFN HRIN HOFL HOF60 HKN HLR HLRN HRES HOF HB HV HFINE HTHK HOV8 t1
 have hS : StB w8.drew w.heap.size args pp bks.length c p.block p.index rk (.slice sp sn sc) (.iface 225 (.agg #[.int .i64 (sk : Nat)])) /\ w8.drew.heap[gv]? = some (.cells #[.int .i64 (x : Nat), .iface T' tv'] 169) /\ w8.drew.heap[gf]? = some (.cells #[.pointer (some ⟨tb, 0, none⟩), .slice (some ⟨go, 0, none⟩) of0.length oc] 220) /\ w8.drew.heap[gn + 1]? = some (.cells #[.int .i64 (sk : Nat)] 225) /\ w8.drew.cell? ⟨go, sk, none⟩ = some (.int .i64 (ofs : Nat)) := ⟨hs8, hgv8, hgf8, hnm8, hoc⟩
 refine wp_region_held_drew (S := fun w' => StB w' w.heap.size args pp bks.length c p.block p.index rk (.slice sp sn sc) (.iface 225 (.agg #[.int .i64 (sk : Nat)])) /\ w'.heap[gv]? = some (.cells #[.int .i64 (x : Nat), .iface T' tv'] 169) /\ w'.heap[gf]? = some (.cells #[.pointer (some ⟨tb, 0, none⟩), .slice (some ⟨go, 0, none⟩) of0.length oc] 220) /\ w'.heap[gn + 1]? = some (.cells #[.int .i64 (sk : Nat)] 225) /\ w'.cell? ⟨go, sk, none⟩ = some (.int .i64 (ofs : Nat))) (by kernel_rfl) ⟨hs8, hgv8, hgf8, hnm8, hoc⟩ (fun hHeld => ?_)
 have hbd : Below w.heap.size w w8.drew := hbw8.drew
 have hgnd : w8.drew.heap[gn]? = some (.cells #[.int .i64 0, .slice none 0 0] 78) := hgn8
 generalize w8.drew = wd at *
 clear hs8 hgv8 hgf8 hnm8 hoc hHeld hgn8 hbw8
 refine wpAnyH_take (i := 0) (v := .agg #[.int .i64 (args : Nat), .slice pp bks.length c]) rfl (by kernel_rfl) (by kernel_rfl) (by kernel_rfl) (fun _ _ _ h => h) (Or.inl ⟨by rfl, fun w' h => by have r0 := blk_cell h.1.1 0 _ rfl; have r1 := blk_cell h.1.1 1 _ rfl; go_simp⟩) hS ?_
 try simp only [Act.put, zz]
 refine wpAnyH_take (i := 1) (v := .pointer (some ⟨w.heap.size + 1, 0, none⟩)) rfl (by kernel_rfl) (by kernel_rfl) (by kernel_rfl) (fun _ _ _ h => h) (Or.inl ⟨by rfl, fun w' h => by  go_simp⟩) hS ?_
 try simp only [Act.put, zz]
 refine wpAnyH_take (i := 2) (v := .agg #[.int .i64 (p.block : Nat), .int .i64 (p.index : Nat)]) rfl (by kernel_rfl) (by kernel_rfl) (by kernel_rfl) (fun _ _ _ h => h) (Or.inl ⟨by rfl, fun w' h => by have r0 := blk_cell h.1.2.1 0 _ rfl; have r1 := blk_cell h.1.2.1 1 _ rfl; go_simp⟩) hS ?_
 try simp only [Act.put, zz]
 refine wpAnyH_take (i := 4) (v := .pointer (some ⟨gv, 0, none⟩)) rfl (by kernel_rfl) (by kernel_rfl) (by kernel_rfl) (fun _ _ _ h => h) (Or.inl ⟨by rfl, fun w' h => by  go_simp⟩) hS ?_
 try simp only [Act.put, zz]
 refine wpAnyH_take (i := 5) (v := .int .i64 (x : Nat)) rfl (by kernel_rfl) (by kernel_rfl) (by kernel_rfl) (fun _ _ _ h => h) (Or.inl ⟨by rfl, fun w' h => by have r0 := blk_cell h.2.1 0 _ rfl; go_simp⟩) hS ?_
 try simp only [Act.put, zz]
 refine wpAnyH_take (i := 6) (v := .pointer (some ⟨gf, 1, none⟩)) rfl (by kernel_rfl) (by kernel_rfl) (by kernel_rfl) (fun _ _ _ h => h) (Or.inl ⟨by rfl, fun w' h => by  go_simp⟩) hS ?_
 try simp only [Act.put, zz]
 refine wpAnyH_take (i := 7) (v := .slice (some ⟨go, 0, none⟩) of0.length oc) rfl (by kernel_rfl) (by kernel_rfl) (by kernel_rfl) (fun _ _ _ h => h) (Or.inl ⟨by rfl, fun w' h => by have r0 := blk_cell h.2.2.1 1 _ rfl; go_simp⟩) hS ?_
 try simp only [Act.put, zz]
 refine wpAnyH_take (i := 8) (v := .pointer (some ⟨gn + 1, 0, none⟩)) rfl (by kernel_rfl) (by kernel_rfl) (by kernel_rfl) (fun _ _ _ h => h) (Or.inl ⟨by rfl, fun w' h => by  go_simp⟩) hS ?_
 try simp only [Act.put, zz]
 refine wpAnyH_take (i := 9) (v := .int .i64 (sk : Nat)) rfl (by kernel_rfl) (by kernel_rfl) (by kernel_rfl) (fun _ _ _ h => h) (Or.inl ⟨by rfl, fun w' h => by have r0 := blk_cell h.2.2.2.1 0 _ rfl; go_simp⟩) hS ?_
 try simp only [Act.put, zz]
 refine wpAnyH_take (i := 10) (v := .pointer (some ⟨go, sk, none⟩)) rfl (by kernel_rfl) (by kernel_rfl) (by kernel_rfl) (fun _ _ _ h => h) (Or.inl ⟨by rfl, fun w' h => by  go_simp⟩) hS ?_
 try simp only [Act.put, zz]
 refine wpAnyH_take (i := 11) (v := .int .i64 (ofs : Nat)) rfl (by kernel_rfl) (by kernel_rfl) (by kernel_rfl) (fun _ _ _ h => h) (Or.inl ⟨by rfl, fun w' h => by have r0 := h.2.2.2.2; go_simp⟩) hS ?_
 try simp only [Act.put, zz]
 refine wpAnyH_ready (rs := [3]) (by kernel_rfl) (by simp) ?_
 refine AllReadyH.cons rfl (fun K hK => ?_) AllReadyH.nil
 rw [if_pos (by rfl)]
 go_wp2_with fail
 refine (HPUT.out wd (.slice none 0 0) [] hbd (nilVals _) (by simp)).mono ?_
 rintro e w9 ⟨p9, c9, rfl, hrep9, hb9⟩
 have hS9 := StS.below hS hb9
 have hgn9 := (hb9.block _ (lt_of_block hgnd)).trans hgnd
 have hbw9 := hbd.trans (hb9.mono hbd.size)
 clear hS hgnd hbd hb9
 refine hK.out _ _ hS9 (fun hHeld => ?_)
 clear hK K
 try simp only [Act.put, zz]
 refine wpAnyH_ready (rs := [12]) (by kernel_rfl) (by simp) ?_
 refine AllReadyH.cons rfl (fun K hK => ?_) AllReadyH.nil
 rw [if_pos (by rfl)]
 go_wp2_with fail
 refine (HRN.out w9 p9 c9 hrep9).mono ?_
 rintro e w10 ⟨q, d, rfl, hrep10, hb10⟩
 have hS10 := StS.below hS9 hb10
 have hgn10 := (hb10.block _ (lt_of_block hgn9)).trans hgn9
 have hbw10 := hbw9.trans (hb10.mono hbw9.size)
 clear hS9 hgn9 hbw9 hb10 hrep9
 refine hK.out _ _ hS10 (fun hHeld => ?_)
 clear hK K
 try simp only [Act.put, zz]
 have q0 := blk_cell hgn10 0 _ rfl
 have q1 := blk_cell hgn10 1 _ rfl
 have z0 := blk_froz hgn10 0
 have z1 := blk_froz hgn10 1
 refine wpAnyH_ready (rs := [13]) (by kernel_rfl) (by simp) ?_
 refine AllReadyH.cons rfl (fun K hK => ?_) AllReadyH.nil
 rw [if_pos (by rfl)]
 go_wp2_with fail
 have hgn11 := set_block (o := 1) (v := .slice q bks.length d) (set_block (o := 0) (v := .int .i64 (args : Nat)) hgn10)
 have hrep11 := (hrep10.set (o := 0) (u := .int .i64 (args : Nat)) hgn10 (by decide) (by decide) (by decide)).set (o := 1) (u := .slice q bks.length d) (set_block hgn10) (by decide) (by decide) (by decide)
 have hb11 : Below w.heap.size w ((w10.setCell ⟨gn, 0, none⟩ (.int .i64 (args : Nat))).setCell ⟨gn, 1, none⟩ (.slice q bks.length d)) := below_set (below_set hbw10 hgnl _ _) hgnl _ _
 have hs11 := (hS10.1.setB (o := 0) (u := .int .i64 (args : Nat)) (show w.heap.size + 1 + 1 < gn by omega)).setB (o := 1) (u := .slice q bks.length d) (show w.heap.size + 1 + 1 < gn by omega)
 have hSx := StS.set (StS.set hS10 (q := 0) (u' := .int .i64 (args : Nat)) (show w.heap.size + 1 + 1 < gn by omega) (show gv ≠ gn by omega) (show gf ≠ gn by omega) (show gn + 1 ≠ gn by omega) hgo) (q := 1) (u' := .slice q bks.length d) (show w.heap.size + 1 + 1 < gn by omega) (show gv ≠ gn by omega) (show gf ≠ gn by omega) (show gn + 1 ≠ gn by omega) hgo
 generalize (w10.setCell ⟨gn, 0, none⟩ (.int .i64 (args : Nat))).setCell ⟨gn, 1, none⟩ (.slice q bks.length d) = w11 at *
 refine hK.out _ _ hSx (fun hHeld => ?_)
 clear hK K
 try simp only [Act.put, zz]
 refine wpAnyH_done (by kernel_rfl) ?_ _
 clear q0 q1 z0 z1 hSx hgn10 hbw10 hS10 hrep10
 have q0 := blk_cell hgn11 0 _ rfl
 have q1 := blk_cell hgn11 1 _ rfl
 have HSW := hide (swept_any args I q d w11 (by rw [HIL.out]; exact hrep11) (NiceB.swOk HIF.out.good))
 rw [HIL.out] at HSW
 have HTX : Hid (∀ w1 p' c', Below w.heap.size w w1 -> RepBlks w1 0 (.slice p' (Code.sweep I).length c') (Code.sweep I) -> Calls Tryz.prog 39 #[.agg #[.int .i64 (args : Nat), .slice p' (Code.sweep I).length c']] w1 fun e w' => e = .returned (.string (bs (Code.wrF args (Code.sweep I)))) /\ Below w1.heap.size w1 w') := hide fun w1 p' c' h1 hr1 => text_any args (Code.sweep I) p' c' w1 hr1 HIF.out.sweep.good hA (HI.out.below h1) (HT.out.below h1)
 have HSIZE : Hid ((bs (Code.wrF args (Code.sweep I))).size = (Code.wrF args (Code.sweep I)).length) := hide (bs_size _)
 clear hrep11
 have HSB2 := hide HSB.out
 generalize Code.sweep I = J at *
 generalize hTF : Code.wrF args J = TF at HTX HSIZE
 have HTFE := hide hTF
 clear hTF
 go_wp2_with fail
 refine HSW.out.mono ?_
 rintro e w12 ⟨q2, d2, rfl, hrep12, hb12⟩
 have hgn12 := (hb12.block _ (lt_of_block hgn11)).trans hgn11
 have hs12 := hs11.below hb12
 have hbw12 := hb11.trans (hb12.mono hb11.size)
 clear q0 q1 hgn11 hs11 hb12
 have q0 := blk_cell hgn12 0 _ rfl
 have q1 := blk_cell hgn12 1 _ rfl
 have z0 := blk_froz hgn12 0
 have z1 := blk_froz hgn12 1
 go_wp2_with fail
 have hgn13 := set_block (o := 1) (v := .slice q2 J.length d2) (set_block (o := 0) (v := .int .i64 (args : Nat)) hgn12)
 have hrep13 := (hrep12.set (o := 0) (u := .int .i64 (args : Nat)) hgn12 (by decide) (by decide) (by decide)).set (o := 1) (u := .slice q2 J.length d2) (set_block hgn12) (by decide) (by decide) (by decide)
 have hbw13 : Below w.heap.size w ((w12.setCell ⟨gn, 0, none⟩ (.int .i64 (args : Nat))).setCell ⟨gn, 1, none⟩ (.slice q2 J.length d2)) := below_set (below_set hbw12 hgnl _ _) hgnl _ _
 have hres13 : ((w12.setCell ⟨gn, 0, none⟩ (.int .i64 (args : Nat))).setCell ⟨gn, 1, none⟩ (.slice q2 J.length d2)).heap[w.heap.size + 1 + 1]? = some (.cells #[.int .i64 0, .slice none 0 0] 78) := stay_set (stay_set hs12.2.2 (show w.heap.size + 1 + 1 ≠ gn by omega)) (show w.heap.size + 1 + 1 ≠ gn by omega)
 generalize (w12.setCell ⟨gn, 0, none⟩ (.int .i64 (args : Nat))).setCell ⟨gn, 1, none⟩ (.slice q2 J.length d2) = w13 at *
 clear q0 q1 z0 z1 hgn12 hs12 hrep12 hbw12
 have hS : w13.drew.heap[gn]? = some (.cells #[.int .i64 (args : Nat), .slice q2 J.length d2] 78) := hgn13
 refine wp_region_held_drew (S := fun w' => w'.heap[gn]? = some (.cells #[.int .i64 (args : Nat), .slice q2 J.length d2] 78)) (by kernel_rfl) hgn13 (fun hHeld => ?_)
 have hrepd : RepBlks w13.drew 0 (.slice q2 J.length d2) J := hrep13
 have hbd : Below w.heap.size w w13.drew := hbw13.drew
 have hresd : w13.drew.heap[w.heap.size + 1 + 1]? = some (.cells #[.int .i64 0, .slice none 0 0] 78) := hres13
 generalize w13.drew = wd at *
 clear hgn13 hHeld hrep13 hbw13 hres13
 refine wpAnyH_take (i := 0) (v := .agg #[.int .i64 (args : Nat), .slice q2 J.length d2]) rfl (by kernel_rfl) (by kernel_rfl) (by kernel_rfl) (fun _ _ _ h => h) (Or.inl ⟨by rfl, fun w' h => by have r0 := blk_cell h 0 _ rfl; have r1 := blk_cell h 1 _ rfl; go_simp⟩) hS ?_
 try simp only [Act.put, zz]
 refine wpAnyH_take (i := 1) (v := .agg #[.int .i64 (args : Nat), .slice q2 J.length d2]) rfl (by kernel_rfl) (by kernel_rfl) (by kernel_rfl) (fun _ _ _ h => h) (Or.inl ⟨by rfl, fun w' h => by have r0 := blk_cell h 0 _ rfl; have r1 := blk_cell h 1 _ rfl; go_simp⟩) hS ?_
 try simp only [Act.put, zz]
 refine wpAnyH_ready (rs := [2]) (by kernel_rfl) (by simp) ?_
 refine AllReadyH.cons rfl (fun K hK => ?_) AllReadyH.nil
 rw [if_pos (by rfl)]
 go_wp2_with fail
 refine (HTX.out wd q2 d2 hbd hrepd).mono ?_
 rintro e w14 ⟨rfl, hb14⟩
 have hS14 := (hb14.block _ (lt_of_block hS)).trans hS
 have hres14 := (hb14.block _ (lt_of_block hresd)).trans hresd
 have hrep14 := hrepd.below hb14
 have hbw14 := hbd.trans (hb14.mono hbd.size)
 refine hK.out _ _ hS14 (fun hHeld => ?_)
 clear hK K
 try simp only [Act.put, zz]
 generalize bs TF = TB at *
 refine wpAnyH_take (i := 3) (v := .int .i64 (TB.size : Nat)) rfl (by kernel_rfl) (by kernel_rfl) (by kernel_rfl) (fun _ _ _ h => h) (Or.inl ⟨by rfl, fun w' h => by  go_simp⟩) hS14 ?_
 try simp only [Act.put, zz]
 refine wpAnyH_take (i := 4) (v := .bool (decide ((TB.size : Int) <= 1500))) rfl (by kernel_rfl) (by kernel_rfl) (by kernel_rfl) (fun _ _ _ h => h) (Or.inl ⟨by rfl, fun w' h => by  go_simp⟩) hS14 ?_
 try simp only [Act.put, zz]
 have q0 := blk_cell hres14 0 _ rfl
 have q1 := blk_cell hres14 1 _ rfl
 have z0 := blk_froz hres14 0
 have z1 := blk_froz hres14 1
 refine wpAnyH_ready (rs := [5]) (by kernel_rfl) (by simp) ?_
 refine AllReadyH.cons rfl (fun K hK => ?_) AllReadyH.nil
 rw [if_pos (by rfl)]
 go_wp2_with fail
 have hS15 : ((w14.setCell ⟨w.heap.size + 1 + 1, 0, none⟩ (.int .i64 (args : Nat))).setCell ⟨w.heap.size + 1 + 1, 1, none⟩ (.slice q2 J.length d2)).heap[gn]? = some (.cells #[.int .i64 (args : Nat), .slice q2 J.length d2] 78) := stay_set (stay_set hS14 (show gn ≠ w.heap.size + 1 + 1 by omega)) (show gn ≠ w.heap.size + 1 + 1 by omega)
 have hres15 := set_block (o := 1) (v := .slice q2 J.length d2) (set_block (o := 0) (v := .int .i64 (args : Nat)) hres14)
 have hrep15 := (hrep14.set (o := 0) (u := .int .i64 (args : Nat)) hres14 (by decide) (by decide) (by decide)).set (o := 1) (u := .slice q2 J.length d2) (set_block hres14) (by decide) (by decide) (by decide)
 have hbw15 : Below w.heap.size w ((w14.setCell ⟨w.heap.size + 1 + 1, 0, none⟩ (.int .i64 (args : Nat))).setCell ⟨w.heap.size + 1 + 1, 1, none⟩ (.slice q2 J.length d2)) := below_set (below_set hbw14 (by omega) _ _) (by omega) _ _
 generalize (w14.setCell ⟨w.heap.size + 1 + 1, 0, none⟩ (.int .i64 (args : Nat))).setCell ⟨w.heap.size + 1 + 1, 1, none⟩ (.slice q2 J.length d2) = w15 at *
 refine hK.out _ _ hS15 (fun hHeld => ?_)
 clear hK K
 try simp only [Act.put, zz]
 refine wpAnyH_take (i := 6) (v := .bool (decide ((TB.size : Int) <= 1500))) rfl (by kernel_rfl) (by kernel_rfl) (by kernel_rfl) (fun _ _ _ h => h) (Or.inl ⟨by rfl, fun w' h => by  go_simp⟩) hS15 ?_
 try simp only [Act.put, zz]
 refine wpAnyH_done (by kernel_rfl) ?_ _
 go_wp2
 refine bodyPost_ret (v := .tuple #[.agg #[.int .i64 (args : Nat), .slice q2 J.length d2], .bool (decide ((TB.size : Int) <= 1500))]) ?_ rfl ?_
 ·have d0 := blk_cell hres15 0 (.int .i64 (args : Nat)) rfl
  have d1 := blk_cell hres15 1 (.slice q2 J.length d2) rfl
  simp [results, Tryz.results77, go_sem, d0, d1]
 ·refine ⟨hbw15, ?_⟩
  have hsz := HSIZE.out
  by_cases hle : TF.length <= 1500
  ·refine Or.inl ⟨J, q2, d2, ?_, ?_, hrep15⟩
   ·rw [HSTEP.out, HSB.out]
    simpa [Option.filter, HTFE.out] using hle
   ·rw [decide_eq_true (by omega)]
  ·refine Or.inr ⟨q2, J.length, d2, ?_, ?_⟩
   ·rw [HSTEP.out, HSB.out]
    simpa [Option.filter, HTFE.out] using hle
   ·rw [decide_eq_false (by omega)]
end Go.Proofs.YtedkjanogjglkaaGreatDoor
