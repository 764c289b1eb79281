/-
  Parts of the proof: RPairs, RPick, RStepL, RStepW.
-/
import Derived.Test.YtedkjanogjglkaaGreatDoorP23
set_option maxRecDepth 100000
set_option maxHeartbeats 8000000
namespace Go.Proofs.YtedkjanogjglkaaGreatDoor
open Go.RowKit
open Go.Proofs.YtedkjanogjglkaaGreatDoor.Code (RTree Nm RSt Prs CRule Pair)
theorem infoPair : (Tryz.prog.info? 151).map (fun i => (i.zero, i.size, i.bytes)) = some (some (.agg #[.int .i64 0, .int .i64 0, .int .i64 0, .slice none 0 0, .nilIface]), 5, 64) := by kernel_rfl
theorem newTh (w5 : World) (tv : List Value) (h : tv.length = 60) : thRow ((w5.alloc (.cells #[.nilIface, .nilIface, .nilIface, .nilIface, .nilIface, .nilIface, .nilIface, .nilIface, .nilIface, .nilIface, .nilIface, .nilIface, .nilIface, .nilIface, .nilIface, .nilIface, .nilIface, .nilIface, .nilIface, .nilIface, .nilIface, .nilIface, .nilIface, .nilIface, .nilIface, .nilIface, .nilIface, .nilIface, .nilIface, .nilIface, .nilIface, .nilIface, .nilIface, .nilIface, .nilIface, .nilIface, .nilIface, .nilIface, .nilIface, .nilIface, .nilIface, .nilIface, .nilIface, .nilIface, .nilIface, .nilIface, .nilIface, .nilIface, .nilIface, .nilIface, .nilIface, .nilIface, .nilIface, .nilIface, .nilIface, .nilIface, .nilIface, .nilIface, .nilIface, .nilIface] 216)).setCells w5.heap.size 0 tv) w5.heap.size tv := by
 have h0 : thRow (w5.alloc (.cells #[.nilIface, .nilIface, .nilIface, .nilIface, .nilIface, .nilIface, .nilIface, .nilIface, .nilIface, .nilIface, .nilIface, .nilIface, .nilIface, .nilIface, .nilIface, .nilIface, .nilIface, .nilIface, .nilIface, .nilIface, .nilIface, .nilIface, .nilIface, .nilIface, .nilIface, .nilIface, .nilIface, .nilIface, .nilIface, .nilIface, .nilIface, .nilIface, .nilIface, .nilIface, .nilIface, .nilIface, .nilIface, .nilIface, .nilIface, .nilIface, .nilIface, .nilIface, .nilIface, .nilIface, .nilIface, .nilIface, .nilIface, .nilIface, .nilIface, .nilIface, .nilIface, .nilIface, .nilIface, .nilIface, .nilIface, .nilIface, .nilIface, .nilIface, .nilIface, .nilIface] 216)) w5.heap.size noThings := heap_alloc_new w5 _
 exact h0.put tv (by rw [h]; rfl)
theorem newThThere (w5 : World) : (w5.alloc (.cells #[.nilIface, .nilIface, .nilIface, .nilIface, .nilIface, .nilIface, .nilIface, .nilIface, .nilIface, .nilIface, .nilIface, .nilIface, .nilIface, .nilIface, .nilIface, .nilIface, .nilIface, .nilIface, .nilIface, .nilIface, .nilIface, .nilIface, .nilIface, .nilIface, .nilIface, .nilIface, .nilIface, .nilIface, .nilIface, .nilIface, .nilIface, .nilIface, .nilIface, .nilIface, .nilIface, .nilIface, .nilIface, .nilIface, .nilIface, .nilIface, .nilIface, .nilIface, .nilIface, .nilIface, .nilIface, .nilIface, .nilIface, .nilIface, .nilIface, .nilIface, .nilIface, .nilIface, .nilIface, .nilIface, .nilIface, .nilIface, .nilIface, .nilIface, .nilIface, .nilIface] 216)).there w5.heap.size 0 60 := by
 have h0 : thRow (w5.alloc (.cells #[.nilIface, .nilIface, .nilIface, .nilIface, .nilIface, .nilIface, .nilIface, .nilIface, .nilIface, .nilIface, .nilIface, .nilIface, .nilIface, .nilIface, .nilIface, .nilIface, .nilIface, .nilIface, .nilIface, .nilIface, .nilIface, .nilIface, .nilIface, .nilIface, .nilIface, .nilIface, .nilIface, .nilIface, .nilIface, .nilIface, .nilIface, .nilIface, .nilIface, .nilIface, .nilIface, .nilIface, .nilIface, .nilIface, .nilIface, .nilIface, .nilIface, .nilIface, .nilIface, .nilIface, .nilIface, .nilIface, .nilIface, .nilIface, .nilIface, .nilIface, .nilIface, .nilIface, .nilIface, .nilIface, .nilIface, .nilIface, .nilIface, .nilIface, .nilIface, .nilIface] 216)) w5.heap.size noThings := heap_alloc_new w5 _
 exact h0.there
def PairCs (w : World) (cs : List Value) (ps : List Pair) : Prop := ∀ i (h : i < ps.length), ∃ k sv rv, cs[i * 5]? = some (.int .i64 (ps[i].block : Nat)) /\ cs[i * 5 + 1]? = some (.int .i64 (ps[i].index : Nat)) /\ cs[i * 5 + 2]? = some (.int .i64 (k : Nat)) /\ cs[i * 5 + 3]? = some sv /\ cs[i * 5 + 4]? = some rv /\ RepR w 0 ps[i].rule k sv rv
theorem PairCs.snoc {w : World} {cs : List Value} {ps : List Pair} (h : PairCs w cs ps) (hl : cs.length = ps.length * 5) {p : Pair} {k : Nat} {sv rv : Value} (hr : RepR w 0 p.rule k sv rv) : PairCs w (cs ++ [.int .i64 (p.block : Nat), .int .i64 (p.index : Nat), .int .i64 (k : Nat), sv, rv]) (ps ++ [p]) := by
 intro i hi
 by_cases hlt : i < ps.length
 ·obtain ⟨k', sv', rv', a, b, c, d, e, f⟩ := h i hlt
  refine ⟨k', sv', rv', ?_, ?_, ?_, ?_, ?_, ?_⟩
  ·rw [List.getElem?_append_left (by omega), List.getElem_append_left hlt]; exact a
  ·rw [List.getElem?_append_left (by omega), List.getElem_append_left hlt]; exact b
  ·rw [List.getElem?_append_left (by omega)]; exact c
  ·rw [List.getElem?_append_left (by omega)]; exact d
  ·rw [List.getElem?_append_left (by omega)]; exact e
  ·rw [List.getElem_append_left hlt]; exact f
 ·have hi' : i = ps.length := by simp at hi; omega
  subst hi'
  have e : (ps ++ [p])[ps.length] = p := by simp
  rw [e]
  refine ⟨k, sv, rv, ?_, ?_, ?_, ?_, ?_, hr⟩
  ·rw [List.getElem?_append_right (by omega), hl]; simp
  ·rw [List.getElem?_append_right (by omega), hl, show ps.length * 5 + 1 - ps.length * 5 = 1 by omega]; rfl
  ·rw [List.getElem?_append_right (by omega), hl, show ps.length * 5 + 2 - ps.length * 5 = 2 by omega]; rfl
  ·rw [List.getElem?_append_right (by omega), hl, show ps.length * 5 + 3 - ps.length * 5 = 3 by omega]; rfl
  ·rw [List.getElem?_append_right (by omega), hl, show ps.length * 5 + 4 - ps.length * 5 = 4 by omega]; rfl
def ApIn (w w0 wr : World) (tb : Nat) (tv : List Value) (pv : Value) (ps : List Pair) : Prop := (∃ cs, wr.ownsRow w0.heap.size 151 5 pv ps.length cs /\ PairCs w cs ps) /\ thRow wr tb tv /\ Below w0.heap.size w0 wr
theorem ApIn.below {w w0 wr w2 : World} {tb : Nat} {tv : List Value} {pv : Value} {ps : List Pair} (h : ApIn w w0 wr tb tv pv ps) (hb : Below wr.heap.size wr w2) : ApIn w w0 w2 tb tv pv ps := by
 obtain ⟨⟨cs, h1, h2⟩, h3, h4⟩ := h
 exact ⟨⟨cs, own_below h1 hb, h2⟩, (hb.block _ (lt_of_block h3)).trans h3, h4.trans (hb.mono h4.size)⟩
structure RuleIn (R : CRule) : Prop where
 ok : Code.RuleOk R
 few : R.names.length <= 6000
theorem allPairs_any (args : Nat) (bks : List Code.Blk) (rules : List CRule) (rsv : Value) (p : Option Addr) (c : Nat) (w : World) (hr : RepRules w 0 rsv rules) (hrl : rules.length <= 3000) (hR : ∀ R ∈ rules, RuleIn R) (hf : RepBlks w 0 (.slice p bks.length c) bks) (hg : Code.NiceB bks) :
  Calls Tryz.prog 76 #[rsv, .agg #[.int .i64 (args : Nat), .slice p bks.length c]] w fun e w' => ∃ pv cs, e = .returned pv /\ w'.ownsRow 0 151 5 pv (Code.pairsC rules bks).length cs /\ PairCs w cs (Code.pairsC rules bks) /\ Below w.heap.size w w' := by
 obtain ⟨i0, hi, hz0, hz1, hz2⟩ := info_parts infoPair
 have HTH : Hid (∀ w1, Below w.heap.size w w1 -> Calls Tryz.prog 124 #[.agg #[.int .i64 (args : Nat), .slice p bks.length c]] w1 fun e w' => ∃ tv, e = .returned (.agg tv.toArray) /\ ThsV w1 (Code.lastThing (bks.flatMap Code.Blk.values)) tv /\ Below w1.heap.size w1 w') := hide fun w1 h1 => things_any args bks p c w1 (hf.below h1) ⟨hg.few, fun b hb => Nat.le_trans (hg.short b hb) (by omega), fun b hb v hv => (hg.vals b hb v hv).1⟩
 have HG := hide hg
 have HOK := hide hg.thOk
 have HR := hide hR
 have hn := hg.few
 have hfit : ∀ (v : Code.Val) (R : CRule), Code.fitC bks v R = Code.cfits (Code.lastThing (bks.flatMap Code.Blk.values)) R.names R.node v.num [] := fun _ _ => rfl
 have hok' : ThOk (Code.lastThing (bks.flatMap Code.Blk.values)) := hg.thOk
 have HFIT := hide hfit
 have HOK' := hide hok'
 obtain ⟨rcs, hrown, hrcs⟩ := hr
 have HRCS := hide hrcs
 have HROWN := hide hrown
 obtain ⟨rp, rc, rfl⟩ := own_slice hrown
 obtain ⟨p', c', hpe, hblk⟩ := hf.open
 simp only [Value.slice.injEq] at hpe
 obtain ⟨rfl, _, rfl⟩ := hpe
 have HBLK := hide hblk
 unfold Code.pairsC
 generalize hF : (fun v r => (Code.fitC bks v r).isSome) = F at *
 have HF : Hid (∀ v R, F v R = (Code.cfits (Code.lastThing (bks.flatMap Code.Blk.values)) R.names R.node v.num []).isSome) := hide fun v R => by rw [<- hF]; rfl
 generalize Code.lastThing (bks.flatMap Code.Blk.values) = th at *
 clear hblk hf hg hR hF hfit hok' hrown hrcs HFIT HOK
 go_enter Tryz.func76, Tryz.ntmps76
 go_wp2_with fail
 generalize hw0 : w.alloc _ = w0
 have hb0 : Below w.heap.size w w0 := by rw [<- hw0]; exact below_al (Below.refl _ _) _
 have hx0 : w0.heap[w.heap.size]? = some (.cells #[.int .i64 (args : Nat), .slice p bks.length c] 78) := by rw [<- hw0]; exact heap_alloc_new w _
 clear hw0
 refine (HTH.out w0 hb0).mono ?_
 rintro e w1 ⟨tv, rfl, htv, hb1⟩
 have hx1 := (hb1.block _ (lt_of_block hx0)).trans hx0
 have hbw1 : Below w.heap.size w w1 := hb0.trans (hb1.mono hb0.size)
 have HTV := hide htv
 have hl60 := htv.1
 have HS' := hide (thSize' tv hl60)
 have HO := hide htv.ones
 have hlx := lt_of_block hx1
 obtain ⟨w2, hW2⟩ : ∃ w2, w2 = (w1.alloc (.cells #[.nilIface, .nilIface, .nilIface, .nilIface, .nilIface, .nilIface, .nilIface, .nilIface, .nilIface, .nilIface, .nilIface, .nilIface, .nilIface, .nilIface, .nilIface, .nilIface, .nilIface, .nilIface, .nilIface, .nilIface, .nilIface, .nilIface, .nilIface, .nilIface, .nilIface, .nilIface, .nilIface, .nilIface, .nilIface, .nilIface, .nilIface, .nilIface, .nilIface, .nilIface, .nilIface, .nilIface, .nilIface, .nilIface, .nilIface, .nilIface, .nilIface, .nilIface, .nilIface, .nilIface, .nilIface, .nilIface, .nilIface, .nilIface, .nilIface, .nilIface, .nilIface, .nilIface, .nilIface, .nilIface, .nilIface, .nilIface, .nilIface, .nilIface, .nilIface, .nilIface] 216)).setCells w1.heap.size 0 tv.toArray.toList := ⟨_, rfl⟩
 have hs2 : thRow w2 w1.heap.size tv := by rw [hW2]; exact newTh w1 tv hl60
 have hb2 : Below w.heap.size w w2 := by rw [hW2]; exact below_cells (below_al hbw1 _) hbw1.size _ _
 have hb02 : Below w0.heap.size w0 w2 := by rw [hW2]; exact below_cells (below_al hb1 _) hb1.size _ _
 have hx2 : w2.heap[w.heap.size]? = some (.cells #[.int .i64 (args : Nat), .slice p bks.length c] 78) := by rw [hW2]; exact stay_cells (stay_alloc hx1) (by omega)
 have HW2 : Hid ((w1.alloc (.cells #[.nilIface, .nilIface, .nilIface, .nilIface, .nilIface, .nilIface, .nilIface, .nilIface, .nilIface, .nilIface, .nilIface, .nilIface, .nilIface, .nilIface, .nilIface, .nilIface, .nilIface, .nilIface, .nilIface, .nilIface, .nilIface, .nilIface, .nilIface, .nilIface, .nilIface, .nilIface, .nilIface, .nilIface, .nilIface, .nilIface, .nilIface, .nilIface, .nilIface, .nilIface, .nilIface, .nilIface, .nilIface, .nilIface, .nilIface, .nilIface, .nilIface, .nilIface, .nilIface, .nilIface, .nilIface, .nilIface, .nilIface, .nilIface, .nilIface, .nilIface, .nilIface, .nilIface, .nilIface, .nilIface, .nilIface, .nilIface, .nilIface, .nilIface, .nilIface, .nilIface] 216)).setCells w1.heap.size 0 tv.toArray.toList = w2) := hide hW2.symm
 have HTHR : Hid ((w1.alloc (.cells #[.nilIface, .nilIface, .nilIface, .nilIface, .nilIface, .nilIface, .nilIface, .nilIface, .nilIface, .nilIface, .nilIface, .nilIface, .nilIface, .nilIface, .nilIface, .nilIface, .nilIface, .nilIface, .nilIface, .nilIface, .nilIface, .nilIface, .nilIface, .nilIface, .nilIface, .nilIface, .nilIface, .nilIface, .nilIface, .nilIface, .nilIface, .nilIface, .nilIface, .nilIface, .nilIface, .nilIface, .nilIface, .nilIface, .nilIface, .nilIface, .nilIface, .nilIface, .nilIface, .nilIface, .nilIface, .nilIface, .nilIface, .nilIface, .nilIface, .nilIface, .nilIface, .nilIface, .nilIface, .nilIface, .nilIface, .nilIface, .nilIface, .nilIface, .nilIface, .nilIface] 216)).there w1.heap.size 0 tv.toArray.size) := by
  have h := newThThere w1
  rw [show 60 = tv.toArray.size by simp [hl60]] at h
  exact h
 have q1 := blk_cell hx2 1 _ rfl
 clear hW2 htv
 go_wp2_with (first | (refine wpList_store_mid rfl 216 _ _ rfl w1.heap.size 0 tv.toArray rfl rfl HTHR.out HS'.out HO.out ?_; rw [HW2.out]))
 have hap : ApIn w w0 w2 w1.heap.size tv (.slice none 0 0) [] := ⟨⟨[], World.ownsRow_nil _ _ _ _, fun i h => by simp at h⟩, hs2, hb02⟩
 have HTW : Hid (∀ w3, Below w0.heap.size w0 w3 -> ThsV w3 th tv) := hide fun w3 h3 => HTV.out.below h3
 have HB0 : Hid (∀ w3, Below w0.heap.size w0 w3 -> Below w.heap.size w w3) := hide fun w3 h3 => hb0.trans (h3.mono hb0.size)
 generalize w1.heap.size = tb at *
 clear hb02 hb0 hx0 hb1 hx1 hbw1 hs2 hx2 HW2 HTHR q1 HS' HO HTV HTH hlx hb2
 go_loopw [5, 20] (fun pv i wr => ∃ (j : Nat) (ps : List Pair), j <= bks.length /\ i = .int .i64 j /\ ps.length <= j * 3000000 /\ Hid (ps = Code.blkPairs F rules 0 (bks.take j)) /\ ApIn w w0 wr tb tv pv ps) (fun _ i _ => bks.length - (intOf i).toNat)
 case atStart => exact ⟨0, [], by omega, rfl, by simp, hide rfl, hap⟩
 case round =>
  obtain ⟨j, ps, hj, rfl, hpl, hps, hin⟩ := hrel
  clear hap
  by_cases hlt : j < bks.length
  ·obtain ⟨g, vs, rfl, hg, c0, c1, hvs⟩ := HBLK.out j hlt
   have hvl := HG.out.short bks[j] (List.getElem_mem hlt)
   have HGV := hide (HG.out.vals bks[j] (List.getElem_mem hlt))
   have HST := hide (Code.blkPairs_take F rules (List.getElem?_eq_getElem hlt))
   obtain ⟨pv', cv, rfl, hval⟩ := hvs.open
   have hbw := HB0.out _ hin.2.2
   have c0' := bcell' hbw g _ hg _ c0
   obtain ⟨T, zv, hzv⟩ := lastV_shape bks[j].last
   rw [hzv] at c1
   have c1' := bcell' hbw g _ hg _ c1
   generalize bks[j].values = vals at *
   have HV := hide hval
   clear hval c0 c1 hvs hzv
   have HIN := hide hin
   obtain ⟨⟨cs0, hcs0, _⟩, _, _⟩ := hin
   obtain ⟨p0, cp0, rfl⟩ := own_slice hcs0
   clear hcs0
   rename World => wo
   go_wp2_with fail
   have hin3 := HIN.out.below (below_al (Below.refl _ _) (.cells #[.slice pv' vals.length cv, .iface T zv] 165))
   generalize wo.alloc (.cells #[.slice pv' vals.length cv, .iface T zv] 165) = w3 at *
   clear c0' c1' HIN hbw
   go_loopw [5, 28] (fun pv i wr => ∃ (k : Nat) (qs : List Pair), k <= vals.length /\ i = .int .i64 k /\ qs.length <= j * 3000000 + k * 3000 /\ Hid (qs = ps ++ Code.valPairs F rules j 0 (vals.take k)) /\ ApIn w w0 wr tb tv pv qs) (fun _ i _ => vals.length - (intOf i).toNat)
   case atStart => exact ⟨0, ps, by omega, rfl, Nat.le_trans hpl (Nat.le_add_right _ _), hide (by simp [Code.valPairs]), hin3⟩
   case round =>
    obtain ⟨k, qs, hk, rfl, hql, hqs, hin⟩ := hrel
    clear hin3
    by_cases hkt : k < vals.length
    ·obtain ⟨g2, tth, rfl, hg2, d0, d1, hth⟩ := HV.out k hkt
     have hbw := HB0.out _ hin.2.2
     have d0' := bcell' hbw g2 _ hg2 _ d0
     have d1' := bcell' hbw g2 _ hg2 _ d1
     have hx60 := (HGV.out vals[k] (List.getElem_mem hkt)).1
     have HSV := hide (Code.valPairs_take F rules j (List.getElem?_eq_getElem hkt))
     obtain ⟨T', tv', rfl⟩ := hth.shape
     have HFV : Hid (∀ R, F vals[k] R = (Code.cfits th R.names R.node vals[k].num []).isSome) := hide (HF.out vals[k])
     generalize vals[k] = v at *
     clear d0 d1 hth
     have HIN := hide hin
     obtain ⟨⟨cs0, hcs0, _⟩, _, _⟩ := hin
     obtain ⟨p1, cp1, rfl⟩ := own_slice hcs0
     clear hcs0
     rename World => wq
     go_wp2_with fail
     have hin4 := HIN.out.below (below_al (Below.refl _ _) (.cells #[.int .i64 (v.num : Nat), .iface T' tv'] 169))
     have hgv4 := heap_alloc_new wq (.cells #[.int .i64 (v.num : Nat), .iface T' tv'] 169)
     generalize wq.alloc (.cells #[.int .i64 (v.num : Nat), .iface T' tv'] 169) = w4 at *
     generalize wq.heap.size = gv at *
     clear d0' d1' HIN hbw
     go_loopw [5, 35] (fun pv i wr => ∃ (m : Nat) (rs : List Pair), m <= rules.length /\ i = .int .i64 m /\ rs.length <= j * 3000000 + k * 3000 + m /\ Hid (rs = qs ++ Code.rowPairs (F v) j k (rules.take m)) /\ ApIn w w0 wr tb tv pv rs /\ wr.heap[gv]? = some (.cells #[.int .i64 (v.num : Nat), .iface T' tv'] 169)) (fun _ i _ => rules.length - (intOf i).toNat)
     case atStart => exact ⟨0, qs, by omega, rfl, Nat.le_trans hql (Nat.le_add_right _ _), hide (by simp [Code.rowPairs]), hin4, hgv4⟩
     case round =>
      obtain ⟨m, rs, hm, rfl, hrl', hrs, hin, hgv⟩ := hrel
      clear hin4 hgv4
      by_cases hmt : m < rules.length
      ·obtain ⟨rk, rsv, rrv, e0, e1, e2, hrep⟩ := HRCS.out m hmt
       obtain ⟨gr, cap', hv', _, hgr, hrc⟩ := row_open HROWN.out (by omega)
       simp only [Value.slice.injEq] at hv'
       obtain ⟨rfl, _, rfl⟩ := hv'
       have hbw := HB0.out _ hin.2.2
       have r0 := bcell' hbw gr _ hgr _ (hrc _ _ e0)
       have r1 := bcell' hbw gr _ hgr _ (hrc _ _ e1)
       have r2 := bcell' hbw gr _ hgr _ (hrc _ _ e2)
       obtain ⟨T2, x2, rfl⟩ := hrep.2.1.shape
       obtain ⟨k', kids', hnode, hke, _, sp, sn, sc, rfl⟩ := hrep.1.op_eq
       have hRin := HR.out rules[m] (List.getElem_mem hmt)
       have HFT : Hid (∀ w1, Below w0.heap.size w0 w1 -> thRow w1 tb tv -> Calls Tryz.prog 125 #[.agg #[.int .i64 (rk : Nat), .slice sp sn sc, .iface T2 x2], .pointer (some ⟨tb, 0, none⟩), .int .i64 (v.num : Nat)] w1 fun e w' => FittedPost (Code.cfits th rules[m].names rules[m].node v.num []) rules[m].names.length tb w1 e w') := hide fun w1 h1 ht => fitted_any th tb rules[m] rk _ _ v.num rules[m].names.length 0 w1 ⟨tv, ht, hl60, (HTW.out w1 h1).2⟩ HOK'.out hRin.ok.dist (hrep.kept (keeps_below (HB0.out w1 h1)) (Nat.le_refl _)) hRin.ok.trav hRin.few hx60 ⟨_, _, rfl⟩
       have HFS := hide (HFV.out rules[m])
       have HRT := hide (Code.rowPairs_take (F v) j k (List.getElem?_eq_getElem hmt))
       have HREP := hide hrep
       generalize rules[m] = R at *
       generalize Code.cfits th R.names R.node v.num [] = o at *
       generalize v.num = x at *
       have HIN := hide hin
       obtain ⟨⟨cs0, hcs0, _⟩, _, _⟩ := hin
       obtain ⟨p2, cp2, rfl⟩ := own_slice hcs0
       clear hcs0 e0 e1 e2 hrc hnode hke hRin hrep
       have gvc := blk_cell hgv 0 _ rfl
       have hgl := lt_of_block hgv
       go_wp2_with fail
       clear gvc hgl
       have hin5 := HIN.out.below (below_al (Below.refl _ _) (.cells #[.int .i64 (rk : Nat), .slice sp sn sc, .iface T2 x2] 123))
       have hgv5 := stay_alloc (p := .cells #[.int .i64 (rk : Nat), .slice sp sn sc, .iface T2 x2] 123) hgv
       have hx5 := heap_alloc_new wr (.cells #[.int .i64 (rk : Nat), .slice sp sn sc, .iface T2 x2] 123)
       generalize wr.alloc (.cells #[.int .i64 (rk : Nat), .slice sp sn sc, .iface T2 x2] 123) = w5 at *
       generalize wr.heap.size = gx at *
       clear r0 r1 r2 hbw HIN hgv
       refine (HFT.out w5 hin5.2.2 hin5.2.1).mono ?_
       rintro e w6 ⟨hb6, of', fv, ⟨ov, rfl, hov⟩, rfl, _⟩
       have hin6 := hin5.below hb6
       have hgv6 := (hb6.block _ (lt_of_block hgv5)).trans hgv5
       have hx6 := (hb6.block _ (lt_of_block hx5)).trans hx5
       obtain ⟨op, oc, rfl⟩ := own_slice hov
       clear hov hin5 hgv5 hx5 hb6
       have hin7 := hin6.below (below_al (Below.refl _ _) (.cells #[.pointer (some ⟨tb, 0, none⟩), .slice op of'.length oc] 220))
       have hgv7 := stay_alloc (p := .cells #[.pointer (some ⟨tb, 0, none⟩), .slice op of'.length oc] 220) hgv6
       have y0 := blk_cell hx6 0 _ rfl
       have y1 := blk_cell hx6 1 _ rfl
       have y2 := blk_cell hx6 2 _ rfl
       have hgx := lt_of_block hx6
       cases ho : o.isSome with
       | false =>
        rw [ho] at HFS
        have hnew : Hid (rs = qs ++ Code.rowPairs (F v) j k (List.take (m + 1) rules)) := hide (by rw [HRT.out, HFS.out]; simpa using hrs.out)
        clear hin6 hgv6 hx6
        go_wp2
        exact ⟨⟨m + 1, rs, by omega, by go_num, by omega, hnew, hin7, hgv7⟩, by simp [intOf]; omega⟩
       | true =>
        rw [ho] at HFS
        have hnew : Hid (rs ++ [⟨j, k, R⟩] = qs ++ Code.rowPairs (F v) j k (List.take (m + 1) rules)) := hide (by rw [HRT.out, HFS.out, hrs.out]; simp)
        clear hin6 hgv6 hx6
        have HIN7 := hide hin7
        obtain ⟨⟨cs7, hcs7, hpc7⟩, hth7, hb7⟩ := hin7
        have HPC := hide hpc7
        have hcn := D.cells_new (w6.alloc (.cells #[.pointer (some ⟨tb, 0, none⟩), .slice op of'.length oc] 220)) [.int .i64 (j : Nat), .int .i64 (k : Nat), .int .i64 (rk : Nat), .slice sp sn sc, .iface T2 x2] 151
        rw [alloc_size] at hcn
        have HCN := hide hcn
        clear hcn
        have hz7 : w0.heap.size <= w6.heap.size + 1 := by have := hb7.size; rwa [alloc_size] at this
        go_wp2_with (first | (at_builtin; refine wpList_append_own _ rfl _ _ 144 rfl w0.heap.size 151 i0 (.agg #[.int .i64 0, .int .i64 0, .int .i64 0, .slice none 0 0, .nilIface]) 5 64 Tryz.underlying144 hi hz0 hz1 hz2 rfl (by decide) (.slice p2 rs.length cp2) rs.length cs7 rfl (hcs7.alloc _) ⟨_, 0, none⟩ 1 1 [.int .i64 (j : Nat), .int .i64 (k : Nat), .int .i64 (rk : Nat), .slice sp sn sc, .iface T2 x2] rfl rfl HCN.out (fun x hx => by simp at hx; rcases hx with rfl | rfl | rfl | rfl | rfl <;> rfl) (by unfold maxLen; omega) (by omega) (by simp; omega) ?_; intro v' w8 hown' hgrow8 hnil8))
        have hb8 : Below w0.heap.size w0 w8 := (below_al hb7 _).grown hgrow8 (by have := hb7.size; simp; omega) (fun q hq => (hcs7.lt q hq).1)
        exact ⟨⟨m + 1, rs ++ [⟨j, k, R⟩], by omega, by go_num, by simp; omega, hnew, ⟨⟨_, by simpa using hown', HPC.out.snoc hcs7.1 HREP.out⟩, stay_grown (hcs7.alloc _) hgrow8 (stay_alloc hth7) (by decide), hb8⟩, stay_grown (hcs7.alloc _) hgrow8 (stay_alloc hgv7) (by decide)⟩, by simp [intOf]; omega⟩
      ·have HA : Hid (rules.take m = rules) := hide (List.take_of_length_le (by omega))
       rw [HA.out] at hrs
       obtain ⟨⟨cs0, hcs0, _⟩, _, _⟩ := id hin
       obtain ⟨p2, cp2, rfl⟩ := own_slice hcs0
       clear hcs0
       go_wp2
       exact ⟨⟨k + 1, rs, by omega, by go_num, Nat.le_trans hrl' (by rw [Nat.succ_mul]; omega), hide (by rw [HSV.out, <- List.append_assoc, <- hqs.out]; exact hrs.out), hin⟩, by simp [intOf]; omega⟩
    ·have HA : Hid (vals.take k = vals) := hide (List.take_of_length_le (by omega))
     rw [HA.out] at hqs
     obtain ⟨⟨cs0, hcs0, _⟩, _, _⟩ := id hin
     obtain ⟨p2, cp2, rfl⟩ := own_slice hcs0
     clear hcs0
     go_wp2
     exact ⟨⟨j + 1, qs, by omega, by go_num, Nat.le_trans hql (by rw [Nat.succ_mul]; omega), hide (by rw [HST.out, <- hps.out]; exact hqs.out), hin⟩, by simp [intOf]; omega⟩
  ·have HA : Hid (bks.take j = bks) := hide (List.take_of_length_le (by omega))
   rw [HA.out] at hps
   have hps' := hps.out
   subst hps'
   obtain ⟨⟨cs0, hcs0, hcp⟩, _, hbw⟩ := hin
   have HO := hide hcs0
   obtain ⟨p2, cp2, rfl⟩ := own_slice hcs0
   clear hcs0
   go_wp2
   go_ret
   exact ⟨_, rfl, cs0, own_base HO.out (Nat.zero_le _), hcp, HB0.out _ hbw⟩
theorem rem_rem (p : Int) (n : Nat) (hn : 0 < n) : (p.tmod n) % (n : Int) = ((p % (n : Int)).toNat : Nat) := by
 have h1 := Int.emod_nonneg p (b := (n : Int)) (by omega)
 rw [Int.toNat_of_nonneg h1, Int.tmod_eq_emod]
 split
 ·simp
 ·have e : ((n : Int).natAbs : Int) = n := by simp
  rw [e, Int.sub_emod, Int.emod_self, Int.sub_zero, Int.emod_emod, Int.emod_emod]
def PicksAt (w : World) (v : Value) (ns : List Int) : Prop := ∃ p c, v = .slice p ns.length c /\ ∀ j (h : j < ns.length), ∃ g o, p = some ⟨g, o, none⟩ /\ w.cell? ⟨g, o + j, none⟩ = some (.int .i64 ns[j])
theorem PicksAt.below {w w' : World} {v : Value} {ns : List Int} (h : PicksAt w v ns) (hb : Below w.heap.size w w') : PicksAt w' v ns := by
 obtain ⟨p, c, rfl, hc⟩ := h
 refine ⟨p, c, rfl, fun j hj => ?_⟩
 obtain ⟨g, o, rfl, e⟩ := hc j hj
 refine ⟨g, o, rfl, ?_⟩
 cases hh : w.heap[g]? with
 | none => simp [World.cell?, hh] at e
 | some ob =>
  have h2 := hb.block g (lt_of_block hh)
  simpa [World.cell?, h2] using e
theorem picked_any (picks : List Int) (pv : Value) (k n : Nat) (w : World) (hp : PicksAt w pv picks) (hin : ∀ p ∈ picks, -9223372036854775808 <= p /\ p <= 9223372036854775807) (hn : 0 < n) (hn' : n <= 1000000000) :
  Calls Tryz.prog 78 #[pv, .int .i64 (k : Nat), .int .i64 (n : Nat)] w fun e w' => e = .returned (.int .i64 (Code.pickN picks k n : Nat)) /\ w' = w := by
 obtain ⟨p, c, rfl, hcell⟩ := hp
 by_cases hlt : k < picks.length
 ·have HP : Hid (Code.pickN picks k n = (picks[k] % (n : Int)).toNat) := hide (by unfold Code.pickN; rw [List.getElem?_eq_getElem hlt])
  rw [HP.out]
  have HRR := hide (rem_rem picks[k] n hn)
  rw [<- HRR.out]
  obtain ⟨g, o, rfl, e0⟩ := hcell k hlt
  have hr := hin picks[k] (List.getElem_mem hlt)
  generalize picks[k] = x at *
  have hge : ¬ (picks.length : Int) <= (k : Int) := by omega
  have hlt' : (k : Int) < (picks.length : Int) := by omega
  have h0 : ¬ (n : Int) = 0 := by omega
  have h1 := Int.tmod_lt_of_pos x (b := (n : Int)) (by omega)
  have h2 := Int.lt_tmod_of_pos x (b := (n : Int)) (by omega)
  clear hcell HP HRR hin
  generalize hy : x.tmod (n : Int) = y at *
  go_enter Tryz.func78, Tryz.ntmps78
  go_wp2
  go_ret
  exact ⟨rfl, rfl⟩
 ·have HP : Hid (Code.pickN picks k n = 0) := hide (by unfold Code.pickN; rw [List.getElem?_eq_none (by omega)])
  rw [HP.out]
  have hge : (picks.length : Int) <= (k : Int) := by omega
  clear hcell HP hin
  go_enter Tryz.func78, Tryz.ntmps78
  go_wp2
  go_ret
  exact ⟨rfl, rfl⟩
namespace Code
theorem known_slot {R : CRule} (h : RuleOk R) {of : List Nat} (hl : of.length = R.names.length) {p : Nm} {k : Nat} (hs : slotOf R.names p = some k) : ∃ hk : k < of.length, knownV (knOf R.names of) p.1 = of[k] := by
 obtain ⟨hk, hp, _⟩ := List.findIdx?_eq_some_iff_getElem.1 hs
 have hk' : k < of.length := by omega
 refine ⟨hk', ?_⟩
 simp only [Bool.and_eq_true, beq_iff_eq] at hp
 have h1 := lookK_knOf h.dist (of := of) (List.getElem?_eq_getElem hk)
 rw [hp.1] at h1
 unfold knownV
 rw [h1, List.getElem?_eq_getElem hk']
 rfl
theorem opW_pos (k : Nat) (h : k < 13) : 1 <= opW k /\ opW k <= 20 := by
 match k, h with
 | 0, _ | 1, _ | 2, _ | 3, _ | 4, _ | 5, _ | 6, _ | 7, _ | 8, _ | 9, _ | 10, _ | 11, _ | 12, _ => decide
mutual
theorem newC_heavy : ∀ t : RTree, t.fine -> (newC t : Int) <= t.heavy
 | .name _, _ => by simp [newC, RTree.heavy]
 | .hash _, _ => by simp [newC, RTree.heavy]
 | .num _, _ => by simp [newC, RTree.heavy]
 | .fold _ _, _ => by simp [newC, RTree.heavy]
 | .op k kids, h => by
  have h1 := newCs_heavy kids h.2.2
  have h2 := opW_pos k h.1
  simp only [newC, RTree.heavy]
  omega
theorem newCs_heavy : ∀ l : List RTree, fineAll l -> (newCs l : Int) <= heavyAll l
 | [], _ => by simp [newCs, heavyAll]
 | t :: l, h => by
  have h1 := newC_heavy t h.1
  have h2 := newCs_heavy l h.2
  simp only [newCs, heavyAll]
  omega
end
theorem RuleOk.room {R : CRule} (h : RuleOk R) : Room ⟨[], 0⟩ (newC R.result) := by
 obtain ⟨k, l, _, hk, _, hh⟩ := h.node
 have h1 := newC_heavy R.result h.fineR
 have h2 := opW_pos k hk
 unfold Room
 simp only [List.length_nil]
 omega
end Code
mutual
theorem RepT.relab {w : World} {base : Nat} {res : Bool} {L L' : Int -> Nm -> Prop} : ∀ (t : RTree) (v : Value), (∀ p ∈ t.names, ∀ i, L i p -> L' i p) -> RepT w base res L v t -> RepT w base res L' v t
 | .name x, v, hL, h => by
  obtain ⟨i, h1, h2⟩ := h
  exact ⟨i, h1, hL _ (by simp [RTree.names]) i h2⟩
 | .hash x, v, hL, h => by
  obtain ⟨i, h1, h2⟩ := h
  exact ⟨i, h1, hL _ (by simp [RTree.names]) i h2⟩
 | .num c, v, _, h => h
 | .op k kids, v, hL, h => by
  obtain ⟨sv, vs, h1, h2, h3, h4, h5⟩ := h
  exact ⟨sv, vs, h1, h2, h3, h4, RepTs.relab kids vs (by simpa [RTree.names] using hL) h5⟩
 | .fold k kids, v, hL, h => by
  obtain ⟨sv, vs, h1, h2, h3, h4, h5⟩ := h
  exact ⟨sv, vs, h1, h2, h3, h4, RepTs.relab kids vs (by simpa [RTree.names] using hL) h5⟩
theorem RepTs.relab {w : World} {base : Nat} {res : Bool} {L L' : Int -> Nm -> Prop} : ∀ (l : List RTree) (vs : List Value), (∀ p ∈ Code.namesAll l, ∀ i, L i p -> L' i p) -> RepTs w base res L vs l -> RepTs w base res L' vs l
 | [], [], _, h => h
 | [], _ :: _, _, h => h.elim
 | _ :: _, [], _, h => h.elim
 | t :: l, v :: vs, hL, h => ⟨RepT.relab t v (fun p hp => hL p (by simp [Code.namesAll, hp])) h.1, RepTs.relab l vs (fun p hp => hL p (by simp [Code.namesAll, hp])) h.2⟩
end
theorem RuleIn.known {R : CRule} (h : RuleIn R) {of : List Nat} (hl : of.length = R.names.length) : ∀ p ∈ R.result.names, ∀ i, LR ⟨R.names, false⟩ i p -> LK of (Code.knOf R.names of) i p := by
 intro p hp i hi
 have hb := h.ok.bound p hp
 obtain ⟨k, hk⟩ := Option.isSome_iff_exists.1 hb
 unfold LR at hi
 simp only [hk] at hi
 obtain ⟨h1, h2⟩ := Code.known_slot h.ok hl hk
 exact ⟨k, hi, h1, h2⟩
theorem NiceB.fnIn {bks : List Code.Blk} (h : Code.NiceB bks) : FnIn bks := ⟨h.few, fun b hb => Nat.le_trans (h.short b hb) (by omega), fun b hb v hv => by
 have h1 := (h.vals b hb v hv).2
 cases ht : v.thing with
 | phi of => rw [ht] at h1; exact h1.1
 | arg k => trivial
 | const c => trivial
 | apply k of =>
  rw [ht] at h1
  have := Code.opOf_range k h1.1
  have := h1.2.1
  show of.length <= 100000
  omega⟩
theorem NiceB.fnOk {bks : List Code.Blk} (h : Code.NiceB bks) : FnOk bks := ⟨h.few, fun b hb => Nat.le_trans (h.short b hb) (by omega), fun b hb v hv => (h.vals b hb v hv).1⟩
theorem NiceB.swOk {bks : List Code.Blk} (h : Code.NiceB bks) : SwOk bks := ⟨h.few, fun b hb => Nat.le_trans (h.short b hb) (by omega), fun b hb v hv => (h.vals b hb v hv).1, fun b hb v hv => by
  have h1 := (h.vals b hb v hv).2
  cases ht : v.thing with
  | phi of => rw [ht] at h1; exact h1
  | arg k => simp [Code.allUses]
  | const c => simp [Code.allUses]
  | apply k of =>
   rw [ht] at h1
   have := Code.opOf_range k h1.1
   have := h1.2.1
   exact ⟨by show of.length <= 100000; omega, h1.2.2⟩, fun b hb x hx => by
  have h1 := h.lasts b hb
  cases hl : b.last with
  | ret v => rw [hl] at h1 hx; simp only [Code.useL, List.mem_cons, List.not_mem_nil, or_false] at hx; subst hx; exact h1
  | jump t => rw [hl] at hx; simp [Code.useL] at hx
  | ifs v a b => rw [hl] at h1 hx; simp only [Code.useL, List.mem_cons, List.not_mem_nil, or_false] at hx; subst hx; exact h1.1⟩
def StB (w' : World) (b args : Nat) (pp : Option Addr) (n c bl ix rk : Nat) (sv rv : Value) : Prop :=
 w'.heap[b]? = some (.cells #[.int .i64 (args : Nat), .slice pp n c] 78) /\ w'.heap[b + 1]? = some (.cells #[.int .i64 (bl : Nat), .int .i64 (ix : Nat), .int .i64 (rk : Nat), sv, rv] 151) /\ w'.heap[b + 1 + 1]? = some (.cells #[.int .i64 0, .slice none 0 0] 78)
theorem StB.below {w w' : World} {b args : Nat} {pp : Option Addr} {n c bl ix rk : Nat} {sv rv : Value} (h : StB w b args pp n c bl ix rk sv rv) (hb : Below w.heap.size w w') : StB w' b args pp n c bl ix rk sv rv :=
 ⟨(hb.block _ (lt_of_block h.1)).trans h.1, (hb.block _ (lt_of_block h.2.1)).trans h.2.1, (hb.block _ (lt_of_block h.2.2)).trans h.2.2⟩
theorem StB.new (w : World) (args : Nat) (pp : Option Addr) (n c bl ix rk : Nat) (sv rv : Value) : StB (((w.alloc (.cells #[.int .i64 (args : Nat), .slice pp n c] 78)).alloc (.cells #[.int .i64 (bl : Nat), .int .i64 (ix : Nat), .int .i64 (rk : Nat), sv, rv] 151)).alloc (.cells #[.int .i64 0, .slice none 0 0] 78)) w.heap.size args pp n c bl ix rk sv rv := by
 refine ⟨stay_alloc (stay_alloc (heap_alloc_new w _)), ?_, ?_⟩
 ·have h := heap_alloc_new (w.alloc (.cells #[.int .i64 (args : Nat), .slice pp n c] 78)) (.cells #[.int .i64 (bl : Nat), .int .i64 (ix : Nat), .int .i64 (rk : Nat), sv, rv] 151)
  rw [alloc_size] at h
  exact stay_alloc h
 ·have h := heap_alloc_new ((w.alloc (.cells #[.int .i64 (args : Nat), .slice pp n c] 78)).alloc (.cells #[.int .i64 (bl : Nat), .int .i64 (ix : Nat), .int .i64 (rk : Nat), sv, rv] 151)) (.cells #[.int .i64 0, .slice none 0 0] 78)
  rw [alloc_size, alloc_size] at h
  exact h
theorem StB.setB {w : World} {b args : Nat} {pp : Option Addr} {n c bl ix rk : Nat} {sv rv : Value} (h : StB w b args pp n c bl ix rk sv rv) {g o : Nat} {u : Value} (hg : b + 1 + 1 < g) : StB (w.setCell ⟨g, o, none⟩ u) b args pp n c bl ix rk sv rv :=
 ⟨stay_set h.1 (show b ≠ g by omega), stay_set h.2.1 (show b + 1 ≠ g by omega), stay_set h.2.2 (show b + 1 + 1 ≠ g by omega)⟩
theorem cell_stay {w : World} {b o g q : Nat} {v u : Value} (h : w.cell? ⟨b, o, none⟩ = some v) (hne : b ≠ g) : (w.setCell ⟨g, q, none⟩ u).cell? ⟨b, o, none⟩ = some v := by
 cases hh : w.heap[b]? with
 | none => simp [World.cell?, hh] at h
 | some ob =>
  have h2 := stay_set (a := ⟨g, q, none⟩) (v := u) hh hne
  simpa [World.cell?, hh, h2] using h
theorem StS.below {w w' : World} {b args : Nat} {pp : Option Addr} {n c bl ix rk : Nat} {sv rv : Value} {gv gf gm go sk : Nat} {O1 O2 O3 : Obj} {u : Value} (h : StB w b args pp n c bl ix rk sv rv /\ w.heap[gv]? = some O1 /\ w.heap[gf]? = some O2 /\ w.heap[gm]? = some O3 /\ w.cell? ⟨go, sk, none⟩ = some u) (hb : Below w.heap.size w w') :
  StB w' b args pp n c bl ix rk sv rv /\ w'.heap[gv]? = some O1 /\ w'.heap[gf]? = some O2 /\ w'.heap[gm]? = some O3 /\ w'.cell? ⟨go, sk, none⟩ = some u := by
 refine ⟨h.1.below hb, (hb.block _ (lt_of_block h.2.1)).trans h.2.1, (hb.block _ (lt_of_block h.2.2.1)).trans h.2.2.1, (hb.block _ (lt_of_block h.2.2.2.1)).trans h.2.2.2.1, ?_⟩
 have hx := h.2.2.2.2
 cases hh : w.heap[go]? with
 | none => simp [World.cell?, hh] at hx
 | some ob =>
  have h2 := hb.block go (lt_of_block hh)
  simpa [World.cell?, h2] using hx
theorem StS.set {w : World} {b args : Nat} {pp : Option Addr} {n c bl ix rk : Nat} {sv rv : Value} {gv gf gm go sk : Nat} {O1 O2 O3 : Obj} {u : Value} (h : StB w b args pp n c bl ix rk sv rv /\ w.heap[gv]? = some O1 /\ w.heap[gf]? = some O2 /\ w.heap[gm]? = some O3 /\ w.cell? ⟨go, sk, none⟩ = some u) {g q : Nat} {u' : Value} (h0 : b + 1 + 1 < g) (h1 : gv ≠ g) (h2 : gf ≠ g) (h3 : gm ≠ g) (h4 : go ≠ g) :
  StB (w.setCell ⟨g, q, none⟩ u') b args pp n c bl ix rk sv rv /\ (w.setCell ⟨g, q, none⟩ u').heap[gv]? = some O1 /\ (w.setCell ⟨g, q, none⟩ u').heap[gf]? = some O2 /\ (w.setCell ⟨g, q, none⟩ u').heap[gm]? = some O3 /\ (w.setCell ⟨g, q, none⟩ u').cell? ⟨go, sk, none⟩ = some u :=
 ⟨h.1.setB h0, stay_set h.2.1 h1, stay_set h.2.2.1 h2, stay_set h.2.2.2.1 h3, cell_stay h.2.2.2.2 h4⟩
def StM (w : World) (b args : Nat) (pp : Option Addr) (n c bl ix rk : Nat) (sv rv : Value) (gv : Nat) (O1 : Obj) (mb : Nat) (O2 : Obj) : Prop := StB w b args pp n c bl ix rk sv rv /\ w.heap[gv]? = some O1 /\ w.heap[mb]? = some O2
theorem StM.below {w w' : World} {b args : Nat} {pp : Option Addr} {n c bl ix rk : Nat} {sv rv : Value} {gv mb : Nat} {O1 O2 : Obj} (h : StM w b args pp n c bl ix rk sv rv gv O1 mb O2) (hb : Below w.heap.size w w') : StM w' b args pp n c bl ix rk sv rv gv O1 mb O2 :=
 ⟨h.1.below hb, (hb.block _ (lt_of_block h.2.1)).trans h.2.1, (hb.block _ (lt_of_block h.2.2)).trans h.2.2⟩
theorem StM.set {w : World} {b args : Nat} {pp : Option Addr} {n c bl ix rk : Nat} {sv rv : Value} {gv mb : Nat} {O1 O2 : Obj} (h : StM w b args pp n c bl ix rk sv rv gv O1 mb O2) {g q : Nat} {u : Value} (h0 : b + 1 + 1 < g) (h1 : gv ≠ g) (h2 : mb ≠ g) : StM (w.setCell ⟨g, q, none⟩ u) b args pp n c bl ix rk sv rv gv O1 mb O2 :=
 ⟨h.1.setB h0, stay_set h.2.1 h1, stay_set h.2.2 h2⟩
theorem StM.grown {w w' : World} {b args : Nat} {pp : Option Addr} {n c bl ix rk : Nat} {sv rv : Value} {gv mb : Nat} {O1 : Obj} {C : Array Value} {z : Nat × Nat} (h : StM w b args pp n c bl ix rk sv rv gv O1 mb (.cells C 229 z)) {k m : Nat} {v : Value} {xs : List Value} (ho : w.ownsRow mb 169 k v m xs) (hg : w.grownBy w' v.ownBlock) (hb : b + 1 + 1 < mb) (hgv : gv < mb) : StM w' b args pp n c bl ix rk sv rv gv O1 mb (.cells C 229 z) := by
 have low : ∀ j o, w.heap[j]? = some o -> j < mb -> w'.heap[j]? = some o := fun j o hj hl => (hg.block j (lt_of_block hj) (fun e => by have := (ho.lt j e.symm).1; omega)).trans hj
 exact ⟨⟨low _ _ h.1.1 (by omega), low _ _ h.1.2.1 (by omega), low _ _ h.1.2.2 (by omega)⟩, low _ _ h.2.1 hgv, stay_grown ho hg h.2.2 (by decide)⟩
def StepPost (args : Nat) (o : Option (List Code.Blk)) (w : World) (e : Ending) (w' : World) : Prop :=
 Below w.heap.size w w' /\ ((∃ n p' c', o = some n /\ e = .returned (.tuple #[.agg #[.int .i64 (args : Nat), .slice p' n.length c'], .bool true]) /\ RepBlks w' 0 (.slice p' n.length c') n) \/ (∃ p' m' c', o = none /\ e = .returned (.tuple #[.agg #[.int .i64 (args : Nat), .slice p' m' c'], .bool false])))
theorem rNm_name (v : Value) (w : World) : (Instr.typeAssert (.iface 225 v) 121 225 true).run Tryz.prog w = .ok (.tuple #[v, .bool true]) w := by kernel_rfl
theorem rNm_hash (v : Value) (w : World) : (Instr.typeAssert (.iface 316 v) 121 225 true).run Tryz.prog w = .ok (.tuple #[.agg #[.int .i64 0], .bool false]) w := by kernel_rfl
theorem rNm_num (v : Value) (w : World) : (Instr.typeAssert (.iface 313 v) 121 225 true).run Tryz.prog w = .ok (.tuple #[.agg #[.int .i64 0], .bool false]) w := by kernel_rfl
theorem rNm_make (v : Value) (w : World) : (Instr.typeAssert (.iface 271 v) 121 225 true).run Tryz.prog w = .ok (.tuple #[.agg #[.int .i64 0], .bool false]) w := by kernel_rfl
theorem rNm_fold (v : Value) (w : World) : (Instr.typeAssert (.iface 266 v) 121 225 true).run Tryz.prog w = .ok (.tuple #[.agg #[.int .i64 0], .bool false]) w := by kernel_rfl
theorem nilVals (w : World) : RepVals w 0 (.slice none 0 0) [] := ⟨[], World.ownsRow_nil _ _ _ _, fun i h => by simp at h⟩
end Go.Proofs.YtedkjanogjglkaaGreatDoor
