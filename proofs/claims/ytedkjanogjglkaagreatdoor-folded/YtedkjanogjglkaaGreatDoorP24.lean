/-
  Parts of the proof: RStepM, RRewL.
-/
import Derived.Test.YtedkjanogjglkaaGreatDoorP22
import Derived.Test.YtedkjanogjglkaaGreatDoorP23
set_option maxRecDepth 100000
set_option maxHeartbeats 8000000
namespace Go.Proofs.YtedkjanogjglkaaGreatDoor
open Go.RowKit
open Go.Proofs.YtedkjanogjglkaaGreatDoor.Code (RTree Nm RSt Prs CRule Pair)
theorem step_make (args : Nat) (bks : List Code.Blk) (p : Pair) (pp : Option Addr) (c rk : Nat) (sv rv : Value) (b : Code.Blk) (v : Code.Val) (kn : Code.Known) (w : World) (hf : RepBlks w 0 (.slice pp bks.length c) bks) (hfine : Code.Fine bks) (hr : RepR w 0 p.rule rk sv rv) (hR : RuleIn p.rule) (hb : bks[p.block]? = some b) (hv : b.values[p.index]? = some v) (hkn : Code.fits (Code.things bks) p.rule.node v.num [] = some kn) (ha : args < 1000) (hi : TabI w) (ht : Tab w) (hres : ∀ y, p.rule.result ≠ .name y) :
  Calls Tryz.prog 77 #[.agg #[.int .i64 (args : Nat), .slice pp bks.length c], .agg #[.int .i64 (p.block : Nat), .int .i64 (p.index : Nat), .int .i64 (rk : Nat), sv, rv]] w fun e w' => StepPost args (Code.stepR args bks p) w e w' := by
 obtain ⟨hbi, rfl⟩ := List.getElem?_eq_some_iff.1 hb
 obtain ⟨hvk, rfl⟩ := List.getElem?_eq_some_iff.1 hv
 have hthk := Code.things_thOk hfine
 have hth := Code.thOf_things hfine.once
 have hnice := hfine.good
 have hx60 : bks[p.block].values[p.index].num < 60 := (hnice.vals _ (List.getElem_mem hbi) _ (List.getElem_mem hvk)).1
 have hkn2 := hkn
 rw [hR.ok.fits, Option.map_eq_some_iff] at hkn2
 obtain ⟨of0, hof0, hknof⟩ := hkn2
 have HSTEP : Hid (Code.stepR args bks p = (Code.stepB1 bks p bks[p.block].values[p.index].num kn).filter fun n => decide ((Code.wrF args n).length <= 1500)) := hide (by
  unfold Code.stepR
  rw [hb, Option.bind_some, hv, Option.bind_some, hkn, Option.bind_some])
 have HTH : Hid (∀ w1, Below w.heap.size w w1 -> Calls Tryz.prog 124 #[.agg #[.int .i64 (args : Nat), .slice pp bks.length c]] w1 fun e w' => ∃ tv, e = .returned (.agg tv.toArray) /\ ThsV w1 (Code.things bks) tv /\ Below w1.heap.size w1 w') := hide fun w1 h1 => by
  have h := things_any args bks pp c w1 (hf.below h1) (NiceB.fnOk hnice)
  rw [show Code.lastThing (bks.flatMap Code.Blk.values) = Code.things bks from hth] at h
  exact h
 have HAT : Hid (∀ w1, Below w.heap.size w w1 -> Calls Tryz.prog 126 #[.agg #[.int .i64 (args : Nat), .slice pp bks.length c], .agg #[.int .i64 (p.block : Nat), .int .i64 (p.index : Nat)]] w1 fun e w' => ∃ th, e = .returned (.agg #[.int .i64 (bks[p.block].values[p.index].num : Nat), th]) /\ ThingV w1 0 bks[p.block].values[p.index].thing th /\ Below w1.heap.size w1 w') := hide fun w1 h1 => at_any args p.block p.index bks pp c w1 (hf.below h1) hbi hvk
 have HPUT : Hid (∀ w1 vs l, Below w.heap.size w w1 -> RepVals w1 0 vs l -> l.length <= 100000 -> Calls Tryz.prog 127 #[.agg #[.int .i64 (args : Nat), .slice pp bks.length c], .agg #[.int .i64 (p.block : Nat), .int .i64 (p.index : Nat)], vs] w1 fun e w' => ∃ p' c', e = .returned (.agg #[.int .i64 (args : Nat), .slice p' bks.length c']) /\ RepBlks w' 0 (.slice p' bks.length c') (Code.putB p.block p.index l bks) /\ Below w1.heap.size w1 w') := hide fun w1 vs l h1 hrv hl => put_any args p.block p.index bks l pp c vs w1 (hf.below h1) hnice.few hbi (Nat.le_trans (hnice.short _ (List.getElem_mem hbi)) (by omega)) hvk hrv hl
 obtain ⟨T2, x2, hrve⟩ := hr.2.1.shape
 obtain ⟨k', kids', hnode, hke, _, sp, sn, sc, hsve⟩ := hr.1.op_eq
 have HFT : Hid (∀ w1 tb tv, Below w.heap.size w w1 -> thRow w1 tb tv -> ThsV w1 (Code.things bks) tv -> Calls Tryz.prog 125 #[.agg #[.int .i64 (rk : Nat), sv, rv], .pointer (some ⟨tb, 0, none⟩), .int .i64 (bks[p.block].values[p.index].num : Nat)] w1 fun e w' => FittedPost (some of0) p.rule.names.length tb w1 e w') := hide fun w1 tb tv h1 hr1 hr2 => by
  have h := fitted_any (Code.things bks) tb p.rule rk sv rv bks[p.block].values[p.index].num p.rule.names.length 0 w1 ⟨tv, hr1, hr2.1, hr2.2⟩ hthk hR.ok.dist (hr.kept (keeps_below h1) (Nat.le_refl _)) hR.ok.trav hR.few hx60 ⟨_, _, hrve⟩
  rw [hof0] at h
  exact h
 have HREP := hide hr
 have HRIN := hide hR
 have HFINE := hide hfine
 have HI := hide hi
 have HT := hide ht
 have HOF := hide hof0
 have HKN := hide hknof
 have HTHK := hide hthk
 have HB := hide hb
 have HV := hide hv
 have hA := ha
 subst hrve hsve
 clear hf hr hR hfine hkn hi ht hof0 hknof hthk hth hnice hb hv hnode hke
 generalize hxe : bks[p.block].values[p.index].num = x at *
 have HXE := hide hxe
 clear hxe
 have t1 : ∀ w, (Instr.typeAssert (.iface T2 x2) 121 225 true).run Tryz.prog w = .ok (.tuple #[.agg #[.int .i64 0], .bool false]) w := by
  have hrr := HREP.out.2.1
  cases hc : p.rule.result with
  | name y => exact absurd hc (hres y)
  | hash y =>
   rw [hc] at hrr
   obtain ⟨si, hsi, _⟩ := hrr
   simp only [Value.iface.injEq] at hsi
   obtain ⟨rfl, rfl⟩ := hsi
   exact rNm_hash _
  | num n =>
   rw [hc] at hrr
   have hsi := hrr.1
   simp only [Value.iface.injEq] at hsi
   obtain ⟨rfl, rfl⟩ := hsi
   exact rNm_num _
  | op k l =>
   rw [hc] at hrr
   obtain ⟨s1, s2, hsi, _⟩ := hrr
   simp only [if_true, Value.iface.injEq] at hsi
   obtain ⟨rfl, rfl⟩ := hsi
   exact rNm_make _
  | fold k l =>
   rw [hc] at hrr
   obtain ⟨s1, s2, hsi, _⟩ := hrr
   simp only [Value.iface.injEq] at hsi
   obtain ⟨rfl, rfl⟩ := hsi
   exact rNm_fold _
 have HRES := hide hres
 clear hres
 go_enter Tryz.func77, Tryz.ntmps77
 go_wp2_with fail
 have hs0 := StB.new w args pp bks.length c p.block p.index rk (.slice sp sn sc) (.iface T2 x2)
 have hb0 : Below w.heap.size w (((w.alloc (.cells #[.int .i64 (args : Nat), .slice pp bks.length c] 78)).alloc (.cells #[.int .i64 (p.block : Nat), .int .i64 (p.index : Nat), .int .i64 (rk : Nat), .slice sp sn sc, .iface T2 x2] 151)).alloc (.cells #[.int .i64 0, .slice none 0 0] 78)) := below_al (below_al (below_al (Below.refl _ _) _) _) _
 generalize ((w.alloc (.cells #[.int .i64 (args : Nat), .slice pp bks.length c] 78)).alloc (.cells #[.int .i64 (p.block : Nat), .int .i64 (p.index : Nat), .int .i64 (rk : Nat), .slice sp sn sc, .iface T2 x2] 151)).alloc (.cells #[.int .i64 0, .slice none 0 0] 78) = w0 at *
 refine (HTH.out w0 hb0).mono ?_
 rintro e w1 ⟨tv, rfl, htv, hb1⟩
 have hs1 := hs0.below hb1
 have hbw1 : Below w.heap.size w w1 := hb0.trans (hb1.mono hb0.size)
 have hl60 := htv.1
 have HS' := hide (thSize' tv hl60)
 have HO := hide htv.ones
 obtain ⟨w2, hW2⟩ : ∃ w2, w2 = (w1.alloc (.cells #[.nilIface, .nilIface, .nilIface, .nilIface, .nilIface, .nilIface, .nilIface, .nilIface, .nilIface, .nilIface, .nilIface, .nilIface, .nilIface, .nilIface, .nilIface, .nilIface, .nilIface, .nilIface, .nilIface, .nilIface, .nilIface, .nilIface, .nilIface, .nilIface, .nilIface, .nilIface, .nilIface, .nilIface, .nilIface, .nilIface, .nilIface, .nilIface, .nilIface, .nilIface, .nilIface, .nilIface, .nilIface, .nilIface, .nilIface, .nilIface, .nilIface, .nilIface, .nilIface, .nilIface, .nilIface, .nilIface, .nilIface, .nilIface, .nilIface, .nilIface, .nilIface, .nilIface, .nilIface, .nilIface, .nilIface, .nilIface, .nilIface, .nilIface, .nilIface, .nilIface] 216)).setCells w1.heap.size 0 tv.toArray.toList := ⟨_, rfl⟩
 have hr2 : thRow w2 w1.heap.size tv := by rw [hW2]; exact newTh w1 tv hl60
 have hb12 : Below w1.heap.size w1 w2 := by rw [hW2]; exact below_cells (below_al (Below.refl _ _) _) (Nat.le_refl _) _ _
 have HW2 : Hid ((w1.alloc (.cells #[.nilIface, .nilIface, .nilIface, .nilIface, .nilIface, .nilIface, .nilIface, .nilIface, .nilIface, .nilIface, .nilIface, .nilIface, .nilIface, .nilIface, .nilIface, .nilIface, .nilIface, .nilIface, .nilIface, .nilIface, .nilIface, .nilIface, .nilIface, .nilIface, .nilIface, .nilIface, .nilIface, .nilIface, .nilIface, .nilIface, .nilIface, .nilIface, .nilIface, .nilIface, .nilIface, .nilIface, .nilIface, .nilIface, .nilIface, .nilIface, .nilIface, .nilIface, .nilIface, .nilIface, .nilIface, .nilIface, .nilIface, .nilIface, .nilIface, .nilIface, .nilIface, .nilIface, .nilIface, .nilIface, .nilIface, .nilIface, .nilIface, .nilIface, .nilIface, .nilIface] 216)).setCells w1.heap.size 0 tv.toArray.toList = w2) := hide hW2.symm
 have HTHR : Hid ((w1.alloc (.cells #[.nilIface, .nilIface, .nilIface, .nilIface, .nilIface, .nilIface, .nilIface, .nilIface, .nilIface, .nilIface, .nilIface, .nilIface, .nilIface, .nilIface, .nilIface, .nilIface, .nilIface, .nilIface, .nilIface, .nilIface, .nilIface, .nilIface, .nilIface, .nilIface, .nilIface, .nilIface, .nilIface, .nilIface, .nilIface, .nilIface, .nilIface, .nilIface, .nilIface, .nilIface, .nilIface, .nilIface, .nilIface, .nilIface, .nilIface, .nilIface, .nilIface, .nilIface, .nilIface, .nilIface, .nilIface, .nilIface, .nilIface, .nilIface, .nilIface, .nilIface, .nilIface, .nilIface, .nilIface, .nilIface, .nilIface, .nilIface, .nilIface, .nilIface, .nilIface, .nilIface] 216)).there w1.heap.size 0 tv.toArray.size) := by
  have h := newThThere w1
  rw [show 60 = tv.toArray.size by simp [hl60]] at h
  exact h
 have hs2 := hs1.below hb12
 have hb2 : Below w.heap.size w w2 := hbw1.trans (hb12.mono hbw1.size)
 have HTV2 := hide (htv.below (hb1.trans (hb12.mono hb1.size)))
 have q0 := blk_cell hs2.1 0 _ rfl
 have q1 := blk_cell hs2.1 1 _ rfl
 have q2 := blk_cell hs2.2.1 0 _ rfl
 have q3 := blk_cell hs2.2.1 1 _ rfl
 clear hW2 htv hs0 hb0 hb1 hs1 hbw1 hb12
 go_wp2_with (first | (refine wpList_store_mid rfl 216 _ _ rfl w1.heap.size 0 tv.toArray rfl rfl HTHR.out HS'.out HO.out ?_; rw [HW2.out]))
 generalize w1.heap.size = tb at *
 clear HTHR HW2 HS' HO q0 q1 q2 q3 HTH
 refine (HAT.out w2 hb2).mono ?_
 rintro e w3 ⟨tth, rfl, hthv, hb3⟩
 obtain ⟨T', tv', rfl⟩ := hthv.shape
 have hb24 : Below w2.heap.size w2 (w3.alloc (.cells #[.int .i64 (x : Nat), .iface T' tv'] 169)) := below_al hb3 _
 have hgv := heap_alloc_new w3 (.cells #[.int .i64 (x : Nat), .iface T' tv'] 169)
 have hs3 := hs2.below hb3
 have hs4 := hs2.below hb24
 have hb4 := hb2.trans (hb24.mono hb2.size)
 have hr4 : thRow _ tb tv := (hb24.block _ (lt_of_block hr2)).trans hr2
 have HTV4 := hide (HTV2.out.below hb24)
 have q2 := blk_cell hs3.2.1 2 _ rfl
 have q3 := blk_cell hs3.2.1 3 _ rfl
 have q4 := blk_cell hs3.2.1 4 _ rfl
 have l2 := lt_of_block hs3.2.1
 clear hthv hs2 hb2 hr2 HTV2 hb3 hb24 HAT
 go_wp2_with fail
 clear q2 q3 q4 l2 hs3
 generalize w3.alloc (.cells #[.int .i64 (x : Nat), .iface T' tv'] 169) = w4 at *
 generalize w3.heap.size = gv at *
 refine (HFT.out w4 tb tv hb4 hr4 HTV4.out).mono ?_
 rintro e w5 ⟨hb5, of', fv, ⟨ov, rfl, hov⟩, rfl, hof'⟩
 have hofe : of0 = of' /\ of'.length = p.rule.names.length /\ ∀ x ∈ of', x < 60 := by
  rcases hof' with ⟨h1, h2, h3⟩ | h1
  ·exact ⟨Option.some.inj h1, h2, h3⟩
  ·cases h1
 obtain ⟨rfl, hofl, hof60⟩ := hofe
 have HOFL := hide hofl
 have HOF60 := hide hof60
 clear hofl hof60
 have hs5 := hs4.below hb5
 have hbw5 := hb4.trans (hb5.mono hb4.size)
 have hgv5 := (hb5.block _ (lt_of_block hgv)).trans hgv
 have hr5 : thRow w5 tb tv := (hb5.block _ (lt_of_block hr4)).trans hr4
 have HTV5 := hide (HTV4.out.below hb5)
 have HOV := hide hov
 obtain ⟨op, oc, rfl⟩ := own_slice hov
 clear hof' hov hs4 hb4 hgv hr4 HTV4 hb5 HFT
 have hb57 := below_al (below_al (Below.refl w5.heap.size w5) (.cells #[.pointer (some ⟨tb, 0, none⟩), .slice op of0.length oc] 220)) (.cells #[.int .i64 0, .slice none 0 0] 78)
 have hgf7 : ((w5.alloc (.cells #[.pointer (some ⟨tb, 0, none⟩), .slice op of0.length oc] 220)).alloc (.cells #[.int .i64 0, .slice none 0 0] 78)).heap[w5.heap.size]? = some (.cells #[.pointer (some ⟨tb, 0, none⟩), .slice op of0.length oc] 220) := stay_alloc (heap_alloc_new w5 _)
 have hgn7 := heap_alloc_new (w5.alloc (.cells #[.pointer (some ⟨tb, 0, none⟩), .slice op of0.length oc] 220)) (.cells #[.int .i64 0, .slice none 0 0] 78)
 rw [alloc_size] at hgn7
 have hs7 := hs5.below hb57
 have hbw7 := hbw5.trans (hb57.mono hbw5.size)
 have hgv7 := (hb57.block _ (lt_of_block hgv5)).trans hgv5
 have hr7 : thRow _ tb tv := (hb57.block _ (lt_of_block hr5)).trans hr5
 have HTV7 := hide (HTV5.out.below hb57)
 have HOV7 := hide (own_below HOV.out hb57)
 have hs5l := lt_of_block hs5.2.2
 have hgvl := lt_of_block hgv5
 have HOVL := hide HOV.out.lt
 have l5 := lt_of_block hs5.2.1
 have l5' : w.heap.size < w5.heap.size := by omega
 have n5 : ¬ w.heap.size = w5.heap.size := by omega
 have n5' : ¬ w.heap.size + 1 = w5.heap.size := by omega
 have q4 := blk_cell hs5.2.1 4 _ rfl
 clear hs5 hbw5 hgv5 hr5 HTV5 HOV hb57
 have hb78 := below_al (Below.refl _ ((w5.alloc (.cells #[.pointer (some ⟨tb, 0, none⟩), .slice op of0.length oc] 220)).alloc (.cells #[.int .i64 0, .slice none 0 0] 78))) (.cells #[.pointer (some ⟨tb, 0, none⟩), .slice op of0.length oc, .slice none 0 0, .int .i64 0] 229)
 have hmk8 := heap_alloc_new ((w5.alloc (.cells #[.pointer (some ⟨tb, 0, none⟩), .slice op of0.length oc] 220)).alloc (.cells #[.int .i64 0, .slice none 0 0] 78)) (.cells #[.pointer (some ⟨tb, 0, none⟩), .slice op of0.length oc, .slice none 0 0, .int .i64 0] 229)
 have hsz7 : ((w5.alloc (.cells #[.pointer (some ⟨tb, 0, none⟩), .slice op of0.length oc] 220)).alloc (.cells #[.int .i64 0, .slice none 0 0] 78)).heap.size = w5.heap.size + 1 + 1 := by rw [alloc_size, alloc_size]
 have HOV8 := hide (own_below HOV7.out hb78)
 have f0 := blk_cell (heap_alloc_new w5 (.cells #[.pointer (some ⟨tb, 0, none⟩), .slice op of0.length oc] 220)) 0 _ rfl
 have f1 := blk_cell (heap_alloc_new w5 (.cells #[.pointer (some ⟨tb, 0, none⟩), .slice op of0.length oc] 220)) 1 _ rfl
 go_wp2_with fail
 clear f0 f1
 have hgnl : w.heap.size <= w5.heap.size + 1 := by omega
 have hgn2 : w.heap.size + 1 + 1 <= w5.heap.size := by omega
 have hk60 : ∀ z, Code.knownV kn z < 60 := fun z => by rw [<- HKN.out]; exact Code.knownV_lt HOF60.out z
 generalize (w5.alloc (.cells #[.pointer (some ⟨tb, 0, none⟩), .slice op of0.length oc] 220)).alloc (.cells #[.int .i64 0, .slice none 0 0] 78) = w7 at *
 generalize hgnE : w5.heap.size + 1 = gn at *
 generalize w5.heap.size = gf at *
 have hmkin : MkIn w7 (w7.alloc (.cells #[.pointer (some ⟨tb, 0, none⟩), .slice op of0.length oc, .slice none 0 0, .int .i64 0] 229)) (Code.things bks) w7.heap.size tb w7.heap.size of0 (fun _ => False) ⟨[], 0⟩ :=
  ⟨fun _ h => h.elim, ⟨tv, hr7, hl60, HTV7.out.2⟩, HTHK.out, rfl, hb78, ⟨_, _, hmk8, ⟨own_base HOV8.out (Nat.zero_le _), fun _ _ h => h⟩, [], World.ownsRow_nil _ _ _ _, ValsCs.nil _, by simp⟩, Nat.le_refl _, HOF60.out⟩
 have hrepT : RepT w7 0 true (LK of0 kn) (.iface T2 x2) p.rule.result := by
  have h := RepT.relab _ _ (HRIN.out.known (of := of0) HOFL.out) HREP.out.2.1
  rw [HKN.out] at h
  exact RepT.kept (keeps_below hbw7) (Nat.le_refl _) (fun _ _ h => h) _ _ h
 have HTHI := hide (mkThing_any p.rule.result HRES.out w7 _ (Code.things bks) kn w7.heap.size tb w7.heap.size 0 of0 (fun _ => False) ⟨[], 0⟩ (.iface T2 x2) hmkin hrepT HRIN.out.ok.room)
 have HMI := hide (Code.mkThing_inv HTHK.out kn p.rule.result HRES.out ⟨[], 0⟩ HRIN.out.ok.fineR (fun q _ => hk60 q.1) (Code.MkInv.nil _))
 have HROOM : Hid (60 < (Code.mkThing (Code.things bks) kn p.rule.result ⟨[], 0⟩).2.next -> Code.stepB1 bks p x kn = none) := hide fun h => Code.stepB1_room ⟨HRES.out, h⟩
 have HSBI : Hid (¬ 60 < (Code.mkThing (Code.things bks) kn p.rule.result ⟨[], 0⟩).2.next -> Code.stepB1 bks p x kn = some (Code.sweep (Code.putB p.block p.index ((Code.mkThing (Code.things bks) kn p.rule.result ⟨[], 0⟩).2.made ++ [⟨x, (Code.mkThing (Code.things bks) kn p.rule.result ⟨[], 0⟩).1⟩]) bks)) /\ Code.Fine (Code.putB p.block p.index ((Code.mkThing (Code.things bks) kn p.rule.result ⟨[], 0⟩).2.made ++ [⟨x, (Code.mkThing (Code.things bks) kn p.rule.result ⟨[], 0⟩).1⟩]) bks)) := hide fun h => by
  have hnr : ¬ Code.noRoom bks p kn := fun h' => h h'.2
  have hIe : Code.stepI bks p x kn = Code.putB p.block p.index ((Code.mkThing (Code.things bks) kn p.rule.result ⟨[], 0⟩).2.made ++ [⟨x, (Code.mkThing (Code.things bks) kn p.rule.result ⟨[], 0⟩).1⟩]) bks := by
   unfold Code.stepI
   cases hc : p.rule.result with
   | name y => exact absurd hc (HRES.out y)
   | _ => rfl
  have h2 := Code.stepI_fine HFINE.out HRIN.out.ok.fineR HB.out HV.out hk60 hnr
  rw [HXE.out, hIe] at h2
  exact ⟨by rw [Code.stepB1_is hnr, hIe], h2⟩
 generalize Code.mkThing (Code.things bks) kn p.rule.result ⟨[], 0⟩ = M at *
 clear hmkin hrepT hk60 hmk8 HOV7 HOV8 hgf7 hr7 HTV7 HREP HTHK HRIN HOFL HOF60 HKN HOF HRES HB HV HFINE
 rw [<- hsz7]
 refine HTHI.out.mono ?_
 rintro e w9 ⟨u, rfl, ⟨huv, _⟩, ⟨ov9, mv9, hmk9, ⟨hov9, _⟩, cs9, hmv9, hvc9, _⟩, hkin⟩
 have hb79 : Below w7.heap.size w7 w9 := hkin.down rfl hb78 (Nat.le_refl _)
 have hs9 := hs7.below hb79
 have hgv9 := (hb79.block _ (lt_of_block hgv7)).trans hgv7
 have hgn9 := (hb79.block _ (lt_of_block hgn7)).trans hgn7
 have hbw9 := hbw7.trans (hb79.mono hbw7.size)
 have hsB := lt_of_block hs7.2.2
 have hgvB := lt_of_block hgv7
 have hgnB := lt_of_block hgn7
 have HUV := hide huv
 have HVC := hide hvc9
 have HMV := hide hmv9
 obtain ⟨T9, x9, rfl⟩ := huv.shape
 obtain ⟨op9, oc9, rfl⟩ := own_slice hov9
 obtain ⟨mp9, mc9, rfl⟩ := own_slice hmv9
 generalize w7.heap.size = mb at *
 have HSZ := hide hsz7
 clear hkin hb78 hb79 hs7 hgv7 hgn7 hbw7 HTHI huv hvc9 hmv9 hov9 hsz7 q4
 have m3 := blk_cell hmk9 3 _ rfl
 by_cases hroom : 60 < M.2.next
 ·have HST : Hid (Code.stepR args bks p = none) := hide (by rw [HSTEP.out, HROOM.out hroom]; rfl)
  have hroom' : (60 : Int) < ((M.2.next : Nat) : Int) := by omega
  have q0 := blk_cell hs9.1 0 _ rfl
  have q1 := blk_cell hs9.1 1 _ rfl
  have r0 := blk_cell hs9.2.2 0 _ rfl
  have r1 := blk_cell hs9.2.2 1 _ rfl
  have z0 := blk_froz hs9.2.2 0
  have z1 := blk_froz hs9.2.2 1
  go_wp2
  have hres10 := set_block (o := 1) (v := .slice pp bks.length c) (set_block (o := 0) (v := .int .i64 (args : Nat)) hs9.2.2)
  refine bodyPost_ret (v := .tuple #[.agg #[.int .i64 (args : Nat), .slice pp bks.length c], .bool false]) ?_ rfl ?_
  ·have d0 := blk_cell hres10 0 (.int .i64 (args : Nat)) rfl
   have d1 := blk_cell hres10 1 (.slice pp bks.length c) rfl
   simp [results, Tryz.results77, go_sem, d0, d1]
  ·exact ⟨below_set (below_set hbw9 (by omega) _ _) (by omega) _ _, Or.inr ⟨_, _, _, HST.out, rfl⟩⟩
 obtain ⟨hSB0, hIF0⟩ := HSBI.out hroom
 have HSB := hide hSB0
 have HIF := hide hIF0
 have HIL : Hid ((Code.putB p.block p.index (M.2.made ++ [⟨x, M.1⟩]) bks).length = bks.length) := hide (by simp [Code.putB])
 have hroom' : ¬ (60 : Int) < ((M.2.next : Nat) : Int) := by omega
 have hml : M.2.made.length <= 60 := by
  have h := Code.nodup_short (n := 60) HMI.out.1.once (fun z hz => by
   obtain ⟨u, hu, rfl⟩ := List.mem_map.1 hz
   have := HMI.out.1.low u hu
   omega)
  simpa using h
 clear hSB0 hIF0 HSBI HROOM HMI
 go_wp2_with fail
 obtain ⟨i0, hi, hz0, hz1, hz2⟩ := info_parts infoVal
 have hS : StM w9.drew w.heap.size args pp bks.length c p.block p.index rk (.slice sp sn sc) (.iface T2 x2) gv (.cells #[.int .i64 (x : Nat), .iface T' tv'] 169) mb (.cells #[.pointer (some ⟨tb, 0, none⟩), .slice op9 of0.length oc9, .slice mp9 M.2.made.length mc9, .int .i64 (M.2.next : Nat)] 229) := ⟨hs9, hgv9, hmk9⟩
 refine wp_region_held_drew (S := fun w' => StM w' w.heap.size args pp bks.length c p.block p.index rk (.slice sp sn sc) (.iface T2 x2) gv (.cells #[.int .i64 (x : Nat), .iface T' tv'] 169) mb (.cells #[.pointer (some ⟨tb, 0, none⟩), .slice op9 of0.length oc9, .slice mp9 M.2.made.length mc9, .int .i64 (M.2.next : Nat)] 229)) (by kernel_rfl) ⟨hs9, hgv9, hmk9⟩ (fun hHeld => ?_)
 have hbd : Below w.heap.size w w9.drew := hbw9.drew
 have hgnd : w9.drew.heap[gn]? = some (.cells #[.int .i64 0, .slice none 0 0] 78) := hgn9
 have hmvd : w9.drew.ownsRow mb 169 2 (.slice mp9 M.2.made.length mc9) M.2.made.length cs9 := HMV.out
 have hvcd : ValsCs w9.drew cs9 M.2.made := HVC.out
 have huvd : ThingV w9.drew 0 M.1 (.iface T9 x9) := HUV.out
 generalize w9.drew = wd at *
 clear hs9 hgv9 hmk9 hHeld hgn9 hbw9 HMV HVC HUV m3
 refine wpAnyH_take (i := 0) (v := .agg #[.int .i64 (args : Nat), .slice pp bks.length c]) rfl (by kernel_rfl) (by kernel_rfl) (by kernel_rfl) (fun _ _ _ h => h) (Or.inl ⟨by rfl, fun w' h => by have r0 := blk_cell h.1.1 0 _ rfl; have r1 := blk_cell h.1.1 1 _ rfl; go_simp⟩) hS ?_
 try simp only [Act.put, zz]
 refine wpAnyH_take (i := 1) (v := .pointer (some ⟨w.heap.size + 1, 0, none⟩)) rfl (by kernel_rfl) (by kernel_rfl) (by kernel_rfl) (fun _ _ _ h => h) (Or.inl ⟨by rfl, fun w' h => by  go_simp⟩) hS ?_
 try simp only [Act.put, zz]
 refine wpAnyH_take (i := 2) (v := .agg #[.int .i64 (p.block : Nat), .int .i64 (p.index : Nat)]) rfl (by kernel_rfl) (by kernel_rfl) (by kernel_rfl) (fun _ _ _ h => h) (Or.inl ⟨by rfl, fun w' h => by have r0 := blk_cell h.1.2.1 0 _ rfl; have r1 := blk_cell h.1.2.1 1 _ rfl; go_simp⟩) hS ?_
 try simp only [Act.put, zz]
 refine wpAnyH_take (i := 3) (v := .pointer (some ⟨mb, 2, none⟩)) rfl (by kernel_rfl) (by kernel_rfl) (by kernel_rfl) (fun _ _ _ h => h) (Or.inl ⟨by rfl, fun w' h => by  go_simp⟩) hS ?_
 try simp only [Act.put, zz]
 refine wpAnyH_take (i := 4) (v := .slice mp9 M.2.made.length mc9) rfl (by kernel_rfl) (by kernel_rfl) (by kernel_rfl) (fun _ _ _ h => h) (Or.inl ⟨by rfl, fun w' h => by have r0 := blk_cell h.2.2 2 _ rfl; go_simp⟩) hS ?_
 try simp only [Act.put, zz]
 refine wpAnyH_take (i := 5) (v := .pointer (some ⟨gv, 0, none⟩)) rfl (by kernel_rfl) (by kernel_rfl) (by kernel_rfl) (fun _ _ _ h => h) (Or.inl ⟨by rfl, fun w' h => by  go_simp⟩) hS ?_
 try simp only [Act.put, zz]
 refine wpAnyH_take (i := 6) (v := .int .i64 (x : Nat)) rfl (by kernel_rfl) (by kernel_rfl) (by kernel_rfl) (fun _ _ _ h => h) (Or.inl ⟨by rfl, fun w' h => by have r0 := blk_cell h.2.1 0 _ rfl; go_simp⟩) hS ?_
 try simp only [Act.put, zz]
 refine wpAnyH_take (i := 7) (v := .iface T9 x9) rfl (by kernel_rfl) (by kernel_rfl) (by kernel_rfl) (fun _ _ _ h => h) (Or.inl ⟨by rfl, fun w' h => by  go_simp⟩) hS ?_
 try simp only [Act.put, zz]
 refine wpAnyH_take (i := 8) (v := .agg #[.int .i64 (x : Nat), .iface T9 x9]) rfl (by kernel_rfl) (by kernel_rfl) (by kernel_rfl) (fun _ _ _ h => h) (Or.inl ⟨by rfl, fun w' h => by  go_simp⟩) hS ?_
 try simp only [Act.put, zz]
 refine wpAnyH_ready (rs := [9]) (by kernel_rfl) (by simp) ?_
 refine AllReadyH.cons rfl (fun K hK => ?_) AllReadyH.nil
 rw [if_pos (by rfl)]
 go_wp2_with fail
 have hba := below_al (Below.refl wd.heap.size wd) (.cells #[.int .i64 (x : Nat), .iface T9 x9] 169)
 have hS10 := hS.below hba
 have hgn10 := (hba.block _ (lt_of_block hgnd)).trans hgnd
 have hbw10 := hbd.trans (hba.mono hbd.size)
 have hmv10 := own_below hmvd hba
 have hvc10 := hvcd.below hba
 have huv10 := huvd.mono (fun _ _ _ h => own_below h hba)
 have hcn := D.cells_new wd [.int .i64 (x : Nat), .iface T9 x9] 169
 have HCN : Hid (∀ j u, [Value.int .i64 (x : Nat), .iface T9 x9][j]? = some u -> (wd.alloc (.cells #[.int .i64 (x : Nat), .iface T9 x9] 169)).cell? ((⟨wd.heap.size, 0, none⟩ : Addr).add j) = some u) := hide hcn
 generalize wd.alloc (.cells #[.int .i64 (x : Nat), .iface T9 x9] 169) = w10 at *
 generalize wd.heap.size = ga at *
 clear hS hgnd hbd hmvd hvcd huvd hba hcn
 refine hK.out _ _ hS10 (fun hHeld => ?_)
 clear hK K
 try simp only [Act.put, zz]
 have hmz := hbw10.size
 have hml10 := lt_of_block hS10.2.2
 refine wpAnyH_ready (rs := [10]) (by kernel_rfl) (by simp) ?_
 refine AllReadyH.cons rfl (fun K hK => ?_) AllReadyH.nil
 rw [if_pos (by rfl)]
 refine wp_append_own _ _ _ 161 rfl mb 169 i0 (.agg #[.int .i64 0, .nilIface]) 2 24 Tryz.underlying161 hi hz0 hz1 hz2 rfl (by decide) (.slice mp9 M.2.made.length mc9) M.2.made.length cs9 rfl hmv10 ⟨ga, 0, none⟩ 1 1 [.int .i64 (x : Nat), .iface T9 x9] rfl rfl HCN.out (by simp [Value.oneCell']) (by unfold maxLen; omega) (by omega) (by omega) ?_
 intro v' w11 hown' hgrow hnil
 have hkeep : ∀ r n xs, w10.ownsRow 0 3 1 r n xs -> w11.ownsRow 0 3 1 r n xs := fun r n xs h => own_grown hmv10 h (by decide) hgrow
 have hS11 := hS10.grown hmv10 hgrow hsB hgvB
 have hgn11' := (hgrow.block _ (lt_of_block hgn10) (fun e => by have := (hmv10.lt _ e.symm).1; omega)).trans hgn10
 have hbw11 := hbw10.grown hgrow hmz (fun q hq => by have := (hmv10.lt q hq).1; omega)
 have hvc11 : ValsCs w11 (cs9 ++ [.int .i64 (x : Nat), .iface T9 x9]) (M.2.made ++ [⟨x, M.1⟩]) := (hvc10.mono hkeep).app ⟨rfl, fun i hi => by
  have hi0 : i = 0 := by simpa using hi
  subst hi0
  exact ⟨_, rfl, rfl, huv10.mono hkeep⟩⟩
 have hrv11 : RepVals w11 0 v' (M.2.made ++ [⟨x, M.1⟩]) := hvc11.rep (by simpa using hown')
 obtain ⟨vp, vc, rfl⟩ := own_slice hown'
 clear hown' hgrow hnil hkeep hvc11 hvc10 huv10 hmv10 hS10 hgn10 hbw10 HCN
 refine hK.out _ _ hS11 (fun hHeld => ?_)
 clear hK K
 try simp only [Act.put, zz]
 refine wpAnyH_ready (rs := [11]) (by kernel_rfl) (by simp) ?_
 refine AllReadyH.cons rfl (fun K hK => ?_) AllReadyH.nil
 rw [if_pos (by rfl)]
 go_wp2_with fail
 refine (HPUT.out w11 _ _ hbw11 hrv11 (by simp; omega)).mono ?_
 rintro e w12 ⟨q, d, rfl, hrep12, hb12⟩
 have hS12 := hS11.below hb12
 have hgn12 := (hb12.block _ (lt_of_block hgn11')).trans hgn11'
 have hbw12 := hbw11.trans (hb12.mono hbw11.size)
 clear hS11 hgn11' hbw11 hb12 hrv11
 refine hK.out _ _ hS12 (fun hHeld => ?_)
 clear hK K
 try simp only [Act.put, zz]
 have q0 := blk_cell hgn12 0 _ rfl
 have q1 := blk_cell hgn12 1 _ rfl
 have z0 := blk_froz hgn12 0
 have z1 := blk_froz hgn12 1
 refine wpAnyH_ready (rs := [12]) (by kernel_rfl) (by simp) ?_
 refine AllReadyH.cons rfl (fun K hK => ?_) AllReadyH.nil
 rw [if_pos (by rfl)]
 go_wp2_with fail
 generalize Code.putB p.block p.index (M.2.made ++ [⟨x, M.1⟩]) bks = I at *
 have hgn11 := set_block (o := 1) (v := .slice q bks.length d) (set_block (o := 0) (v := .int .i64 (args : Nat)) hgn12)
 have hrep11 := (hrep12.set (o := 0) (u := .int .i64 (args : Nat)) hgn12 (by decide) (by decide) (by decide)).set (o := 1) (u := .slice q bks.length d) (set_block hgn12) (by decide) (by decide) (by decide)
 have hb11 : Below w.heap.size w ((w12.setCell ⟨gn, 0, none⟩ (.int .i64 (args : Nat))).setCell ⟨gn, 1, none⟩ (.slice q bks.length d)) := below_set (below_set hbw12 hgnl _ _) hgnl _ _
 have hSx := (hS12.set (q := 0) (u := .int .i64 (args : Nat)) (show w.heap.size + 1 + 1 < gn by omega) (show gv ≠ gn by omega) (show mb ≠ gn by omega)).set (q := 1) (u := .slice q bks.length d) (show w.heap.size + 1 + 1 < gn by omega) (show gv ≠ gn by omega) (show mb ≠ gn by omega)
 have hs11 := hSx.1
 generalize (w12.setCell ⟨gn, 0, none⟩ (.int .i64 (args : Nat))).setCell ⟨gn, 1, none⟩ (.slice q bks.length d) = w11 at *
 refine hK.out _ _ hSx (fun hHeld => ?_)
 clear hK K
 try simp only [Act.put, zz]
 refine wpAnyH_done (by kernel_rfl) ?_ _
 clear q0 q1 z0 z1 hSx hgn12 hbw12 hS12 hrep12
 have q0 := blk_cell hgn11 0 _ rfl
 have q1 := blk_cell hgn11 1 _ rfl
 have HSW := hide (swept_any args I q d w11 (by rw [HIL.out]; exact hrep11) (NiceB.swOk HIF.out.good))
 rw [HIL.out] at HSW
 have HTX : Hid (∀ w1 p' c', Below w.heap.size w w1 -> RepBlks w1 0 (.slice p' (Code.sweep I).length c') (Code.sweep I) -> Calls Tryz.prog 39 #[.agg #[.int .i64 (args : Nat), .slice p' (Code.sweep I).length c']] w1 fun e w' => e = .returned (.string (bs (Code.wrF args (Code.sweep I)))) /\ Below w1.heap.size w1 w') := hide fun w1 p' c' h1 hr1 => text_any args (Code.sweep I) p' c' w1 hr1 HIF.out.sweep.good hA (HI.out.below h1) (HT.out.below h1)
 have HSIZE : Hid ((bs (Code.wrF args (Code.sweep I))).size = (Code.wrF args (Code.sweep I)).length) := hide (bs_size _)
 clear hrep11
 have HSB2 := hide HSB.out
 generalize Code.sweep I = J at *
 generalize hTF : Code.wrF args J = TF at HTX HSIZE
 have HTFE := hide hTF
 clear hTF
 go_wp2_with fail
 refine HSW.out.mono ?_
 rintro e w12 ⟨q2, d2, rfl, hrep12, hb12⟩
 have hgn12 := (hb12.block _ (lt_of_block hgn11)).trans hgn11
 have hs12 := hs11.below hb12
 have hbw12 := hb11.trans (hb12.mono hb11.size)
 clear q0 q1 hgn11 hs11 hb12
 have q0 := blk_cell hgn12 0 _ rfl
 have q1 := blk_cell hgn12 1 _ rfl
 have z0 := blk_froz hgn12 0
 have z1 := blk_froz hgn12 1
 go_wp2_with fail
 have hgn13 := set_block (o := 1) (v := .slice q2 J.length d2) (set_block (o := 0) (v := .int .i64 (args : Nat)) hgn12)
 have hrep13 := (hrep12.set (o := 0) (u := .int .i64 (args : Nat)) hgn12 (by decide) (by decide) (by decide)).set (o := 1) (u := .slice q2 J.length d2) (set_block hgn12) (by decide) (by decide) (by decide)
 have hbw13 : Below w.heap.size w ((w12.setCell ⟨gn, 0, none⟩ (.int .i64 (args : Nat))).setCell ⟨gn, 1, none⟩ (.slice q2 J.length d2)) := below_set (below_set hbw12 hgnl _ _) hgnl _ _
 have hres13 : ((w12.setCell ⟨gn, 0, none⟩ (.int .i64 (args : Nat))).setCell ⟨gn, 1, none⟩ (.slice q2 J.length d2)).heap[w.heap.size + 1 + 1]? = some (.cells #[.int .i64 0, .slice none 0 0] 78) := stay_set (stay_set hs12.2.2 (show w.heap.size + 1 + 1 ≠ gn by omega)) (show w.heap.size + 1 + 1 ≠ gn by omega)
 generalize (w12.setCell ⟨gn, 0, none⟩ (.int .i64 (args : Nat))).setCell ⟨gn, 1, none⟩ (.slice q2 J.length d2) = w13 at *
 clear q0 q1 z0 z1 hgn12 hs12 hrep12 hbw12
 have hS : w13.drew.heap[gn]? = some (.cells #[.int .i64 (args : Nat), .slice q2 J.length d2] 78) := hgn13
 refine wp_region_held_drew (S := fun w' => w'.heap[gn]? = some (.cells #[.int .i64 (args : Nat), .slice q2 J.length d2] 78)) (by kernel_rfl) hgn13 (fun hHeld => ?_)
 have hrepd : RepBlks w13.drew 0 (.slice q2 J.length d2) J := hrep13
 have hbd : Below w.heap.size w w13.drew := hbw13.drew
 have hresd : w13.drew.heap[w.heap.size + 1 + 1]? = some (.cells #[.int .i64 0, .slice none 0 0] 78) := hres13
 generalize w13.drew = wd at *
 clear hgn13 hHeld hrep13 hbw13 hres13
 refine wpAnyH_take (i := 0) (v := .agg #[.int .i64 (args : Nat), .slice q2 J.length d2]) rfl (by kernel_rfl) (by kernel_rfl) (by kernel_rfl) (fun _ _ _ h => h) (Or.inl ⟨by rfl, fun w' h => by have r0 := blk_cell h 0 _ rfl; have r1 := blk_cell h 1 _ rfl; go_simp⟩) hS ?_
 try simp only [Act.put, zz]
 refine wpAnyH_take (i := 1) (v := .agg #[.int .i64 (args : Nat), .slice q2 J.length d2]) rfl (by kernel_rfl) (by kernel_rfl) (by kernel_rfl) (fun _ _ _ h => h) (Or.inl ⟨by rfl, fun w' h => by have r0 := blk_cell h 0 _ rfl; have r1 := blk_cell h 1 _ rfl; go_simp⟩) hS ?_
 try simp only [Act.put, zz]
 refine wpAnyH_ready (rs := [2]) (by kernel_rfl) (by simp) ?_
 refine AllReadyH.cons rfl (fun K hK => ?_) AllReadyH.nil
 rw [if_pos (by rfl)]
 go_wp2_with fail
 refine (HTX.out wd q2 d2 hbd hrepd).mono ?_
 rintro e w14 ⟨rfl, hb14⟩
 have hS14 := (hb14.block _ (lt_of_block hS)).trans hS
 have hres14 := (hb14.block _ (lt_of_block hresd)).trans hresd
 have hrep14 := hrepd.below hb14
 have hbw14 := hbd.trans (hb14.mono hbd.size)
 refine hK.out _ _ hS14 (fun hHeld => ?_)
 clear hK K
 try simp only [Act.put, zz]
 generalize bs TF = TB at *
 refine wpAnyH_take (i := 3) (v := .int .i64 (TB.size : Nat)) rfl (by kernel_rfl) (by kernel_rfl) (by kernel_rfl) (fun _ _ _ h => h) (Or.inl ⟨by rfl, fun w' h => by  go_simp⟩) hS14 ?_
 try simp only [Act.put, zz]
 refine wpAnyH_take (i := 4) (v := .bool (decide ((TB.size : Int) <= 1500))) rfl (by kernel_rfl) (by kernel_rfl) (by kernel_rfl) (fun _ _ _ h => h) (Or.inl ⟨by rfl, fun w' h => by  go_simp⟩) hS14 ?_
 try simp only [Act.put, zz]
 have q0 := blk_cell hres14 0 _ rfl
 have q1 := blk_cell hres14 1 _ rfl
 have z0 := blk_froz hres14 0
 have z1 := blk_froz hres14 1
 refine wpAnyH_ready (rs := [5]) (by kernel_rfl) (by simp) ?_
 refine AllReadyH.cons rfl (fun K hK => ?_) AllReadyH.nil
 rw [if_pos (by rfl)]
 go_wp2_with fail
 have hS15 : ((w14.setCell ⟨w.heap.size + 1 + 1, 0, none⟩ (.int .i64 (args : Nat))).setCell ⟨w.heap.size + 1 + 1, 1, none⟩ (.slice q2 J.length d2)).heap[gn]? = some (.cells #[.int .i64 (args : Nat), .slice q2 J.length d2] 78) := stay_set (stay_set hS14 (show gn ≠ w.heap.size + 1 + 1 by omega)) (show gn ≠ w.heap.size + 1 + 1 by omega)
 have hres15 := set_block (o := 1) (v := .slice q2 J.length d2) (set_block (o := 0) (v := .int .i64 (args : Nat)) hres14)
 have hrep15 := (hrep14.set (o := 0) (u := .int .i64 (args : Nat)) hres14 (by decide) (by decide) (by decide)).set (o := 1) (u := .slice q2 J.length d2) (set_block hres14) (by decide) (by decide) (by decide)
 have hbw15 : Below w.heap.size w ((w14.setCell ⟨w.heap.size + 1 + 1, 0, none⟩ (.int .i64 (args : Nat))).setCell ⟨w.heap.size + 1 + 1, 1, none⟩ (.slice q2 J.length d2)) := below_set (below_set hbw14 (by omega) _ _) (by omega) _ _
 generalize (w14.setCell ⟨w.heap.size + 1 + 1, 0, none⟩ (.int .i64 (args : Nat))).setCell ⟨w.heap.size + 1 + 1, 1, none⟩ (.slice q2 J.length d2) = w15 at *
 refine hK.out _ _ hS15 (fun hHeld => ?_)
 clear hK K
 try simp only [Act.put, zz]
 refine wpAnyH_take (i := 6) (v := .bool (decide ((TB.size : Int) <= 1500))) rfl (by kernel_rfl) (by kernel_rfl) (by kernel_rfl) (fun _ _ _ h => h) (Or.inl ⟨by rfl, fun w' h => by  go_simp⟩) hS15 ?_
 try simp only [Act.put, zz]
 refine wpAnyH_done (by kernel_rfl) ?_ _
 go_wp2
 refine bodyPost_ret (v := .tuple #[.agg #[.int .i64 (args : Nat), .slice q2 J.length d2], .bool (decide ((TB.size : Int) <= 1500))]) ?_ rfl ?_
 ·have d0 := blk_cell hres15 0 (.int .i64 (args : Nat)) rfl
  have d1 := blk_cell hres15 1 (.slice q2 J.length d2) rfl
  simp [results, Tryz.results77, go_sem, d0, d1]
 ·refine ⟨hbw15, ?_⟩
  have hsz := HSIZE.out
  by_cases hle : TF.length <= 1500
  ·refine Or.inl ⟨J, q2, d2, ?_, ?_, hrep15⟩
   ·rw [HSTEP.out, HSB.out]
    simpa [Option.filter, HTFE.out] using hle
   ·rw [decide_eq_true (by omega)]
  ·refine Or.inr ⟨q2, J.length, d2, ?_, ?_⟩
   ·rw [HSTEP.out, HSB.out]
    simpa [Option.filter, HTFE.out] using hle
   ·rw [decide_eq_false (by omega)]
theorem stepR_any (args : Nat) (bks : List Code.Blk) (p : Pair) (pp : Option Addr) (c rk : Nat) (sv rv : Value) (b : Code.Blk) (v : Code.Val) (kn : Code.Known) (w : World) (hf : RepBlks w 0 (.slice pp bks.length c) bks) (hfine : Code.Fine bks) (hr : RepR w 0 p.rule rk sv rv) (hR : RuleIn p.rule) (hb : bks[p.block]? = some b) (hv : b.values[p.index]? = some v) (hkn : Code.fits (Code.things bks) p.rule.node v.num [] = some kn) (ha : args < 1000) (hi : TabI w) (ht : Tab w) :
  Calls Tryz.prog 77 #[.agg #[.int .i64 (args : Nat), .slice pp bks.length c], .agg #[.int .i64 (p.block : Nat), .int .i64 (p.index : Nat), .int .i64 (rk : Nat), sv, rv]] w fun e w' => StepPost args (Code.stepR args bks p) w e w' := by
 by_cases h : ∃ y, p.rule.result = .name y
 ·obtain ⟨y, hy⟩ := h
  exact step_name args bks p pp c rk sv rv b v kn w hf hfine hr hR hb hv hkn ha hi ht y hy
 ·exact step_make args bks p pp c rk sv rv b v kn w hf hfine hr hR hb hv hkn ha hi ht (fun y hy => h ⟨y, hy⟩)
namespace Code
theorem mem_rowPairs {fit : CRule -> Bool} {i k : Nat} {rules : List CRule} {p : Pair} (h : p ∈ rowPairs fit i k rules) : p.block = i /\ p.index = k /\ p.rule ∈ rules /\ fit p.rule = true := by
 unfold rowPairs at h
 obtain ⟨r, hr, rfl⟩ := List.mem_map.1 h
 obtain ⟨h1, h2⟩ := List.mem_filter.1 hr
 exact ⟨rfl, rfl, h1, h2⟩
theorem mem_valPairs {fit : Val -> CRule -> Bool} {rules : List CRule} {i : Nat} {p : Pair} : ∀ (l : List Val) (k : Nat), p ∈ valPairs fit rules i k l -> p.block = i /\ k <= p.index /\ p.rule ∈ rules /\ ∃ v, l[p.index - k]? = some v /\ fit v p.rule = true
 | [], k, h => by simp [valPairs] at h
 | v :: l, k, h => by
  simp only [valPairs, List.mem_append] at h
  rcases h with h | h
  ·obtain ⟨h1, h2, h3, h4⟩ := mem_rowPairs h
   exact ⟨h1, by omega, h3, v, by rw [h2]; simp, h4⟩
  ·obtain ⟨h1, h2, h3, u, h4, h5⟩ := mem_valPairs l (k + 1) h
   refine ⟨h1, by omega, h3, u, ?_, h5⟩
   rw [show p.index - k = (p.index - (k + 1)) + 1 by omega, List.getElem?_cons_succ]
   exact h4
theorem mem_blkPairs {fit : Val -> CRule -> Bool} {rules : List CRule} {p : Pair} : ∀ (l : List Blk) (i : Nat), p ∈ blkPairs fit rules i l -> i <= p.block /\ p.rule ∈ rules /\ ∃ b v, l[p.block - i]? = some b /\ b.values[p.index]? = some v /\ fit v p.rule = true
 | [], i, h => by simp [blkPairs] at h
 | b :: l, i, h => by
  simp only [blkPairs, List.mem_append] at h
  rcases h with h | h
  ·obtain ⟨h1, _, h3, v, h4, h5⟩ := mem_valPairs b.values 0 h
   exact ⟨by omega, h3, b, v, by rw [h1]; simp, by simpa using h4, h5⟩
  ·obtain ⟨h1, h3, c, v, h4, h5, h6⟩ := mem_blkPairs l (i + 1) h
   refine ⟨by omega, h3, c, v, ?_, h5, h6⟩
   rw [show p.block - i = (p.block - (i + 1)) + 1 by omega, List.getElem?_cons_succ]
   exact h4
theorem mem_pairs {bks : List Blk} {rules : List CRule} {p : Pair} (h : p ∈ pairs rules bks) : p.rule ∈ rules /\ ∃ b v kn, bks[p.block]? = some b /\ b.values[p.index]? = some v /\ fits (things bks) p.rule.node v.num [] = some kn := by
 unfold pairs at h
 rw [<- blkPairs_old] at h
 obtain ⟨_, h2, b, v, h3, h4, h5⟩ := mem_blkPairs bks 0 h
 unfold fitsAt at h5
 obtain ⟨kn, hkn⟩ := Option.isSome_iff_exists.1 h5
 exact ⟨h2, b, v, kn, by simpa using h3, h4, hkn⟩
theorem RewS.le {args : Nat} {rules : List CRule} {picks : List Int} {k m : Nat} {bks out : List Blk} {e : Int} (h : RewS args rules picks k bks out m e) : k <= m := by
 induction h with
 | done _ => exact Nat.le_refl _
 | room _ _ => exact Nat.le_refl _
 | next _ _ _ ih => omega
theorem pickN_lt {picks : List Int} {k n : Nat} (hn : 0 < n) : pickN picks k n < n := by
 unfold pickN
 split
 ·exact hn
 ·rename_i p _
  have h1 := Int.emod_nonneg p (b := (n : Int)) (by omega)
  have h2 := Int.emod_lt_of_pos p (b := (n : Int)) (by omega)
  omega
theorem RewS.cases {args : Nat} {rules : List CRule} {picks : List Int} {k m : Nat} {bks out : List Blk} {e : Int} (h : RewS args rules picks k bks out m e) :
  (pairs rules bks = [] /\ out = bks /\ m = k /\ e = 0) \/ ∃ p, pairs rules bks ≠ [] /\ (pairs rules bks)[pickN picks k (pairs rules bks).length]? = some p /\ ((stepR args bks p = none /\ out = bks /\ m = k /\ e = 9) \/ ∃ n, stepR args bks p = some n /\ RewS args rules picks (k + 1) n out m e) := by
 cases h with
 | done h => exact Or.inl ⟨h, rfl, rfl, rfl⟩
 | room h1 h2 => exact Or.inr ⟨_, (fun e => by rw [e] at h1; simp at h1), h1, Or.inl ⟨h2, rfl, rfl, rfl⟩⟩
 | next h1 h2 h3 => exact Or.inr ⟨_, (fun e => by rw [e] at h1; simp at h1), h1, Or.inr ⟨_, h2, h3⟩⟩
end Code
end Go.Proofs.YtedkjanogjglkaaGreatDoor
