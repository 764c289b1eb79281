/-
  Parts of the proof: RRow, RClone.
-/
import Derived.Test.YtedkjanogjglkaaGreatDoorP14
import Derived.Lib.AppendZeros
import Derived.Laws.OwnMore
set_option maxRecDepth 100000
set_option maxHeartbeats 4000000
namespace Go.Proofs.YtedkjanogjglkaaGreatDoor
open Go.RowKit
def cRow (w : World) (g T : Nat) (cs : List Value) : Prop := w.heap[g]? = some (.cells cs.toArray T)
theorem cRow.cell {w : World} {g T : Nat} {cs : List Value} (h : cRow w g T cs) (i : Nat) (hi : i < cs.length) : w.cell? ⟨g, i, none⟩ = some cs[i] := blk_cell h i _ (by simp [hi])
theorem cRow.set {w : World} {g T : Nat} {cs : List Value} (h : cRow w g T cs) (i : Nat) (v : Value) : cRow (w.setCell ⟨g, i, none⟩ v) g T (cs.set i v) := by
 unfold cRow at *
 rw [set_block h]
 simp
theorem cRow.own {w : World} {g T base n size : Nat} {cs : List Value} (h : cRow w g T cs) (hl : cs.length = n * size) (hb : base <= g) (hm : n <= maxLen) : w.ownsRow base T size (.slice (some ⟨g, 0, none⟩) n n) n cs :=
 ⟨hl, Or.inr ⟨g, n, _, rfl, hb, h, Nat.le_refl _, hm, by simp [hl], List.take_of_length_le (by simp [hl])⟩⟩
theorem cRow_made {w : World} {base T g n size : Nat} {cs : List Value} (h : w.ownsRow base T size (.slice (some ⟨g, 0, none⟩) n n) n cs) : cRow w g T cs /\ cs.length = n * size := by
 refine ⟨?_, h.1⟩
 rcases h.2 with ⟨h0, _⟩ | ⟨g', cap, cur, hv, _, hg, _, _, hs, ht⟩
 ·cases h0
 ·simp only [Value.slice.injEq, Option.some.injEq, Addr.mk.injEq] at hv
  obtain ⟨⟨rfl, _⟩, _, rfl⟩ := hv
  unfold cRow
  rw [hg]
  congr 2
  apply Array.toList_inj.1
  rw [<- List.take_of_length_le (l := cur.toList) (i := n * size) (by simp [hs]), ht]
def ValsTo (w : World) (cs : List Value) (l : List Code.Val) (k : Nat) : Prop := ∀ i (h : i < l.length), i < k -> ∃ th, cs[i * 2]? = some (.int .i64 (l[i].num : Nat)) /\ cs[i * 2 + 1]? = some th /\ ThingV w 0 l[i].thing th
def BlksTo (w : World) (cs : List Value) (l : List Code.Blk) (k : Nat) : Prop := ∀ i (h : i < l.length), i < k -> ∃ vs, cs[i * 2]? = some vs /\ cs[i * 2 + 1]? = some (lastV l[i].last) /\ RepVals w 0 vs l[i].values
theorem ValsTo.put {w w' : World} {cs : List Value} {l : List Code.Val} {k : Nat} (h : ValsTo w cs l k) (hk : ∀ r n xs, w.ownsRow 0 3 1 r n xs -> w'.ownsRow 0 3 1 r n xs) (hl : cs.length = l.length * 2) (hkl : k < l.length) {th : Value} (hth : ThingV w' 0 l[k].thing th) : ValsTo w' ((cs.set (k * 2) (.int .i64 (l[k].num : Nat))).set (k * 2 + 1) th) l (k + 1) := by
 intro i hi hik
 by_cases e : i = k
 ·subst e
  exact ⟨th, by rw [List.getElem?_set_ne (by omega), List.getElem?_set_self (by omega)], by rw [List.getElem?_set_self (by simp; omega)], hth⟩
 ·obtain ⟨t, h1, h2, h3⟩ := h i hi (by omega)
  exact ⟨t, by rw [List.getElem?_set_ne (by omega), List.getElem?_set_ne (by omega)]; exact h1, by rw [List.getElem?_set_ne (by omega), List.getElem?_set_ne (by omega)]; exact h2, h3.mono hk⟩
theorem BlksTo.put {w w' : World} {cs : List Value} {l : List Code.Blk} {k : Nat} (h : BlksTo w cs l k) (hv : ∀ r n xs, w.ownsRow 0 169 2 r n xs -> w'.ownsRow 0 169 2 r n xs) (hk : ∀ r n xs, w.ownsRow 0 3 1 r n xs -> w'.ownsRow 0 3 1 r n xs) (hl : cs.length = l.length * 2) (hkl : k < l.length) {vs : Value} (hth : RepVals w' 0 vs l[k].values) : BlksTo w' ((cs.set (k * 2) vs).set (k * 2 + 1) (lastV l[k].last)) l (k + 1) := by
 intro i hi hik
 by_cases e : i = k
 ·subst e
  exact ⟨vs, by rw [List.getElem?_set_ne (by omega), List.getElem?_set_self (by omega)], by rw [List.getElem?_set_self (by simp; omega)], hth⟩
 ·obtain ⟨t, h1, h2, h3⟩ := h i hi (by omega)
  exact ⟨t, by rw [List.getElem?_set_ne (by omega), List.getElem?_set_ne (by omega)]; exact h1, by rw [List.getElem?_set_ne (by omega), List.getElem?_set_ne (by omega)]; exact h2, h3.mono hv hk⟩
theorem BlksTo.mono {w w' : World} {cs : List Value} {l : List Code.Blk} {k : Nat} (h : BlksTo w cs l k) (hv : ∀ r n xs, w.ownsRow 0 169 2 r n xs -> w'.ownsRow 0 169 2 r n xs) (hk : ∀ r n xs, w.ownsRow 0 3 1 r n xs -> w'.ownsRow 0 3 1 r n xs) : BlksTo w' cs l k := by
 intro i hi hik
 obtain ⟨t, h1, h2, h3⟩ := h i hi hik
 exact ⟨t, h1, h2, h3.mono hv hk⟩
theorem ValsTo.rep {w : World} {g : Nat} {cs : List Value} {l : List Code.Val} (h : ValsTo w cs l l.length) (hr : cRow w g 169 cs) (hl : cs.length = l.length * 2) (hm : l.length <= maxLen) : RepVals w 0 (.slice (some ⟨g, 0, none⟩) l.length l.length) l :=
 ⟨cs, hr.own hl (Nat.zero_le _) hm, fun i hi => h i hi hi⟩
theorem BlksTo.rep {w : World} {g : Nat} {cs : List Value} {l : List Code.Blk} (h : BlksTo w cs l l.length) (hr : cRow w g 165 cs) (hl : cs.length = l.length * 2) (hm : l.length <= maxLen) : RepBlks w 0 (.slice (some ⟨g, 0, none⟩) l.length l.length) l :=
 ⟨cs, hr.own hl (Nat.zero_le _) hm, fun i hi => h i hi hi⟩
structure FnIn (bks : List Code.Blk) : Prop where
 few : bks.length <= 8
 short : ∀ b ∈ bks, b.values.length <= 100000
 things : ∀ b ∈ bks, ∀ v ∈ b.values, shortT v.thing
theorem renV_get (a b : Nat) (l : List Code.Val) (k : Nat) (h : k < l.length) : (l.map fun v => (⟨v.num, Code.renT a b v.thing⟩ : Code.Val))[k]'(by simpa using h) = ⟨l[k].num, Code.renT a b l[k].thing⟩ := by simp
theorem Renamed_any (args a b : Nat) (bks : List Code.Blk) (p : Option Addr) (c : Nat) (w : World) (hf : RepBlks w 0 (.slice p bks.length c) bks) (hok : FnIn bks) :
  Calls Tryz.prog 128 #[.agg #[.int .i64 (args : Nat), .slice p bks.length c], .int .i64 (a : Nat), .int .i64 (b : Nat)] w fun e w' => ∃ p' c', e = .returned (.agg #[.int .i64 (args : Nat), .slice p' bks.length c']) /\ RepBlks w' 0 (.slice p' bks.length c') (Code.renB a b bks) /\ Below w.heap.size w w' := by
 obtain ⟨i1, hi, hi0, hi1, hi2⟩ := info_parts infoBlk
 obtain ⟨i2, hq, hq0, hq1, hq2⟩ := info_parts infoVal
 have HTS := hide hok.things
 have hn := hok.few
 have HL := hide hok.short
 obtain ⟨p', c', hpe, hblk⟩ := hf.open
 simp only [Value.slice.injEq] at hpe
 obtain ⟨rfl, _, rfl⟩ := hpe
 have HBLK := hide hblk
 clear hblk hf hok
 go_enter Tryz.func128, Tryz.ntmps128
 go_wp2_with (first | (at_make; refine wpList_make_full _ rfl _ _ 76 rfl w.heap.size 165 i1 (.agg #[.slice none 0 0, .nilIface]) 2 Tryz.underlying76 hi hi0 hi1 .i64 .i64 _ _ bks.length rfl rfl rfl rfl (by rw [hi2]; omega) (by unfold maxLen; omega) (by simp; omega) ?_; intro w2 hown2 hgrow2; have hbx : w2.heap[w.heap.size]? = some (.cells #[.int .i64 (args : Nat), .slice p bks.length c] 78) := (hgrow2.block _ (by simp; omega) (by simp)).trans (stay_alloc (heap_alloc_new w _)); have hc1 := blk_cell hbx 1 _ rfl))
 simp only [alloc_size] at hown2
 obtain ⟨hcr2, hcl2⟩ := cRow_made hown2
 have hrs2 : w2.heap[w.heap.size + 1]? = some (.cells #[.int .i64 0, .slice none 0 0] 78) := by
  have h := heap_alloc_new (w.alloc (.cells #[.int .i64 (args : Nat), .slice p bks.length c] 78)) (.cells #[.int .i64 0, .slice none 0 0] 78)
  rw [alloc_size] at h
  exact (hgrow2.block _ (by simp) (by simp)).trans h
 have hb2 : Below w.heap.size w w2 := by
  have h := below_al (below_al (Below.refl w.heap.size w) (.cells #[.int .i64 (args : Nat), .slice p bks.length c] 78)) (.cells #[.int .i64 0, .slice none 0 0] 78)
  exact h.trans ⟨hgrow2.os, hgrow2.tape, hgrow2.output, hgrow2.size, fun k hk => hgrow2.block k (by simp; omega) (by simp)⟩
 generalize (madeCells (Value.agg #[Value.slice none 0 0, Value.nilIface]).cells (bks.length * 2)).toList = cs0 at hcr2 hcl2
 clear hown2 hgrow2 hc1
 have hrl : (Code.renB a b bks).length = bks.length := by simp [Code.renB]
 go_loopw [20] (fun i wr => ∃ (j : Nat) (cs : List Value), j <= bks.length /\ i = .int .i64 j /\ cRow wr (w.heap.size + 1 + 1) 165 cs /\ cs.length = bks.length * 2 /\ Hid (BlksTo wr cs (Code.renB a b bks) j) /\ wr.heap[w.heap.size]? = some (.cells #[.int .i64 (args : Nat), .slice p bks.length c] 78) /\ wr.heap[w.heap.size + 1]? = some (.cells #[.int .i64 0, .slice none 0 0] 78) /\ Below w.heap.size w wr) (fun i _ => bks.length - (intOf i).toNat)
 case atStart => exact ⟨0, cs0, by omega, rfl, hcr2, hcl2, hide (fun i hi h => by omega), hbx, hrs2, hb2⟩
 case round =>
  obtain ⟨j, cs, hj, rfl, hcr, hcl, HBT, hbx', hrs', hbw⟩ := hrel
  clear hcr2 hcl2 hbx hrs2 hb2
  have hz := hbw.size
  by_cases hlt : j < bks.length
  ·obtain ⟨g, vs, rfl, hg, c0, c1, hvs⟩ := HBLK.out j hlt
   have hlen := HL.out bks[j] (List.getElem_mem hlt)
   have HTJ := hide (HTS.out bks[j] (List.getElem_mem hlt))
   obtain ⟨pv, cv, rfl, hval⟩ := hvs.open
   have c0' := bcell' hbw g _ hg _ c0
   obtain ⟨T, zv, hzv⟩ := lastV_shape bks[j].last
   have HRL := hide (renamedLast_any bks[j].last a b)
   rw [hzv] at c1 HRL
   have c1' := bcell' hbw g _ hg _ c1
   have HRB : Hid ((Code.renB a b bks)[j]'(by omega) = ⟨bks[j].values.map fun v => ⟨v.num, Code.renT a b v.thing⟩, Code.renL a b bks[j].last⟩) := by simp [Hid, Code.renB]
   generalize Code.renL a b bks[j].last = nl at *
   generalize bks[j].values = vals at *
   have HV := hide hval
   clear hval c0 c1 hvs hzv
   rename World => wo
   have hgr := lt_of_block hcr
   go_wp2_with (first | (at_make; refine wpList_make_full _ rfl _ _ 161 rfl w.heap.size 169 i2 (.agg #[.int .i64 0, .nilIface]) 2 Tryz.underlying161 hq hq0 hq1 .i64 .i64 _ _ vals.length rfl rfl rfl rfl (by rw [hq2]; omega) (by unfold maxLen; omega) (by simp; omega) ?_; intro w4 hown4 hgrow4; have hbb : w4.heap[wo.heap.size]? = some (.cells #[.slice pv vals.length cv, .iface T zv] 165) := (hgrow4.block _ (by simp) (by simp)).trans (heap_alloc_new wo _); have hc4 := blk_cell hbb 0 _ rfl))
   simp only [alloc_size] at hown4
   obtain ⟨hcr4, hcl4⟩ := cRow_made hown4
   have hb4 : Below wo.heap.size wo w4 := by
    have h := below_al (Below.refl wo.heap.size wo) (.cells #[.slice pv vals.length cv, .iface T zv] 165)
    exact h.trans ⟨hgrow4.os, hgrow4.tape, hgrow4.output, hgrow4.size, fun k hk => hgrow4.block k (by simp; omega) (by simp)⟩
   generalize (madeCells (Value.agg #[Value.int .i64 0, Value.nilIface]).cells (vals.length * 2)).toList = ds0 at hcr4 hcl4
   have HBB := hide hbb
   clear hown4 hgrow4 hc4 c0' c1' hbb
   generalize hB : wo.heap.size = B at *
   go_loopw [32] (fun i ws => ∃ (k : Nat) (ds : List Value), k <= vals.length /\ i = .int .i64 k /\ cRow ws (B + 1) 169 ds /\ ds.length = vals.length * 2 /\ Hid (ValsTo ws ds (vals.map fun v => ⟨v.num, Code.renT a b v.thing⟩) k) /\ ws.heap[B]? = some (.cells #[.slice pv vals.length cv, .iface T zv] 165) /\ Below B wo ws) (fun i _ => vals.length - (intOf i).toNat)
   case atStart => exact ⟨0, ds0, by omega, rfl, hcr4, hcl4, hide (fun i hi h => by omega), HBB.out, hb4⟩
   case round =>
    obtain ⟨k, ds, hk, rfl, hdr, hdl, HVT, hbk, hbs⟩ := hrel
    clear hcr4 hcl4 hb4
    have hzs := hbs.size
    by_cases hkt : k < vals.length
    ·have hbws : Below w.heap.size w wr := hbw.trans (hbs.mono (by omega))
     obtain ⟨g2, th, rfl, hg2, d0, d1, hth⟩ := HV.out k hkt
     have d0' := bcell' hbws g2 _ hg2 _ d0
     have d1' := bcell' hbws g2 _ hg2 _ d1
     have HRT : Hid (∀ w1, Below wr.heap.size wr w1 -> Calls Tryz.prog 172 #[th, .int .i64 (a : Nat), .int .i64 (b : Nat)] w1 fun e w' => ∃ r, e = .returned r /\ ThingV w' 0 (Code.renT a b vals[k].thing) r /\ Below w1.heap.size w1 w') := hide fun w1 h1 => renamedThing_any vals[k].thing th a b w1 ((hth.mono (fun _ _ _ h' => own_below h' hbws)).mono (fun _ _ _ h' => own_below h' h1)) (HTJ.out _ (List.getElem_mem hkt))
     obtain ⟨T', tv, rfl⟩ := hth.shape
     clear d0 d1 hth
     have hdb := lt_of_block hdr
     have hbkl := lt_of_block hbk
     have HG : Hid ((vals.map fun v => (⟨v.num, Code.renT a b v.thing⟩ : Code.Val))[k]'(by simpa using hkt) = ⟨vals[k].num, Code.renT a b vals[k].thing⟩) := hide (renV_get a b vals k hkt)
     generalize vals[k].num = x at *
     generalize Code.renT a b vals[k].thing = nt at *
     go_wp2_with fail
     generalize hw9 : wr.alloc _ = w9
     have hb9 : Below wr.heap.size wr w9 := by rw [<- hw9]; exact below_al (Below.refl _ _) _
     have hx9 : w9.heap[wr.heap.size]? = some (.cells #[.int .i64 (x : Nat), .iface T' tv] 169) := by rw [<- hw9]; exact heap_alloc_new wr _
     have hdr9 : cRow w9 (B + 1) 169 ds := (hb9.block _ hdb).trans hdr
     clear hw9 d0' d1'
     have e0 : ∀ w', w9.grownBy w' (some (B + 1)) -> w'.cell? ⟨wr.heap.size, 0, none⟩ = some (.int .i64 (x : Nat)) := fun w' h => blk_cell (kept_block hx9 h (by omega)) 0 _ rfl
     have e1 : ∀ w', w9.grownBy w' (some (B + 1)) -> w'.cell? ⟨wr.heap.size, 1, none⟩ = some (.iface T' tv) := fun w' h => blk_cell (kept_block hx9 h (by omega)) 1 _ rfl
     have hkl : (k : Int) < (vals.length : Int) := by omega
     go_region_held3 (fun w' => w9.grownBy w' (some (B + 1))) (first | assumption | (repeat' (first | assumption | exact grown_refl _ _ | apply grown_drew | exact grown_set _ _ _ _ | (refine grown_trans ?_ (grown_set _ _ _ _))))) (first | (go_at_call 172; refine (HRT.out _ hb9.drew).mono ?_; rintro e w10 ⟨r, rfl, hrt, hb10'⟩; have hb10 : Below w9.heap.size w9 w10 := undrewB hb10'; have hg10 : w9.grownBy w10 (some (B + 1)) := grown_below hb10; have HRT2 := hide hrt; obtain ⟨T3, r3, rfl⟩ := hrt.shape; have hdr10 : cRow w10 (B + 1) 169 ds := (hb10.block _ (lt_of_block hdr9)).trans hdr9; obtain ⟨u0, hu0⟩ : ∃ u, w10.cell? ⟨B + 1, k * 2, none⟩ = some u := ⟨_, hdr10.cell (k * 2) (by omega)⟩; obtain ⟨u1, hu1⟩ : ∃ u, w10.cell? ⟨B + 1, k * 2 + 1, none⟩ = some u := ⟨_, hdr10.cell (k * 2 + 1) (by omega)⟩; have hf0 := blk_froz hdr10 (k * 2); have hf1 := blk_froz hdr10 (k * 2 + 1); clear hrt))
     have hwr10 : Below wr.heap.size wr w10 := hb9.trans (hb10.mono hb9.size)
     have hnl : (vals.map fun v => (⟨v.num, Code.renT a b v.thing⟩ : Code.Val)).length = vals.length := by simp
     have HVN : Hid (ValsTo ((w10.setCell ⟨B + 1, k * 2, none⟩ (.int .i64 (x : Nat))).setCell ⟨B + 1, k * 2 + 1, none⟩ (.iface T3 r3)) ((ds.set (k * 2) (.int .i64 (x : Nat))).set (k * 2 + 1) (.iface T3 r3)) (vals.map fun v => ⟨v.num, Code.renT a b v.thing⟩) (k + 1)) := by
      have h := HVT.out.put (w' := (w10.setCell ⟨B + 1, k * 2, none⟩ (.int .i64 (x : Nat))).setCell ⟨B + 1, k * 2 + 1, none⟩ (.iface T3 r3)) (th := .iface T3 r3) (fun _ _ _ h => own_set (own_set (own_below h hwr10) hdr10 (by decide)) (hdr10.set _ _) (by decide)) (by rw [hnl]; exact hdl) (by rw [hnl]; exact hkt) (by rw [HG.out]; exact HRT2.out.mono (fun _ _ _ h => own_set (own_set h hdr10 (by decide)) (hdr10.set _ _) (by decide)))
      rw [HG.out] at h
      exact h
     have hbk10 : ((w10.setCell ⟨B + 1, k * 2, none⟩ (.int .i64 (x : Nat))).setCell ⟨B + 1, k * 2 + 1, none⟩ (.iface T3 r3)).heap[B]? = some (.cells #[.slice (some ⟨g2, 0, none⟩) vals.length cv, .iface T zv] 165) := stay_set (stay_set ((hwr10.block _ hbkl).trans hbk) (show B ≠ B + 1 by omega)) (show B ≠ B + 1 by omega)
     have hbs10 : Below B wo ((w10.setCell ⟨B + 1, k * 2, none⟩ (.int .i64 (x : Nat))).setCell ⟨B + 1, k * 2 + 1, none⟩ (.iface T3 r3)) := by
      subst hB
      exact below_set (below_set (hbs.trans (hwr10.mono hzs)) (by omega) _ _) (by omega) _ _
     have hdr11 := (hdr10.set (k * 2) (.int .i64 (x : Nat))).set (k * 2 + 1) (.iface T3 r3)
     generalize (w10.setCell ⟨B + 1, k * 2, none⟩ (.int .i64 (x : Nat))).setCell ⟨B + 1, k * 2 + 1, none⟩ (.iface T3 r3) = w11 at *
     clear hu0 hu1 hf0 hf1 e0 e1 hg10
     go_wp2
     exact ⟨⟨k + 1, _, by omega, by go_num, hdr11, by simpa using hdl, HVN, hbk10, hbs10⟩, by simp [intOf]; omega⟩
    ·have hkv : k = vals.length := by omega
     have hbws : Below w.heap.size w wr := hbw.trans (hbs.mono (by omega))
     have f1 := blk_cell hbk 1 _ rfl
     have hcrs : cRow wr (w.heap.size + 1 + 1) 165 cs := (hbs.block _ (by omega)).trans hcr
     have hgrs := lt_of_block hcrs
     have hnl : (vals.map fun v => (⟨v.num, Code.renT a b v.thing⟩ : Code.Val)).length = vals.length := by simp
     have hrv : RepVals wr 0 (.slice (some ⟨B + 1, 0, none⟩) vals.length vals.length) (vals.map fun v => ⟨v.num, Code.renT a b v.thing⟩) := by
      have h := HVT.out
      rw [hkv, <- hnl] at h
      have h2 := h.rep hdr (by rw [hnl]; exact hdl) (by rw [hnl]; unfold maxLen; omega)
      rw [hnl] at h2
      exact h2
     have HRV := hide hrv
     have HBT1 : Hid (BlksTo wr cs (Code.renB a b bks) j) := hide (HBT.out.mono (fun _ _ _ h => own_below h (hB ▸ hbs)) (fun _ _ _ h => own_below h (hB ▸ hbs)))
     have hjl : (j : Int) < (bks.length : Int) := by omega
     obtain ⟨u0, hu0⟩ : ∃ u, wr.cell? ⟨w.heap.size + 1 + 1, j * 2, none⟩ = some u := ⟨_, hcrs.cell (j * 2) (by omega)⟩
     obtain ⟨u1, hu1⟩ : ∃ u, wr.cell? ⟨w.heap.size + 1 + 1, j * 2 + 1, none⟩ = some u := ⟨_, hcrs.cell (j * 2 + 1) (by omega)⟩
     have hf0 := blk_froz hcrs (j * 2)
     have hf1 := blk_froz hcrs (j * 2 + 1)
     clear hrv hnl HVT
     go_wp2_with fail
     refine (HRL.out _).mono ?_
     rintro e w5 ⟨rfl, hb5⟩
     obtain ⟨T5, z5, hz5⟩ := lastV_shape nl
     have HZ5 := hide hz5
     rw [hz5]
     have hcr5 : cRow w5 (w.heap.size + 1 + 1) 165 cs := (hb5.block _ (lt_of_block hcrs)).trans hcrs
     obtain ⟨u2, hu2⟩ : ∃ u, w5.cell? ⟨w.heap.size + 1 + 1, j * 2, none⟩ = some u := ⟨_, hcr5.cell (j * 2) (by omega)⟩
     obtain ⟨u3, hu3⟩ : ∃ u, w5.cell? ⟨w.heap.size + 1 + 1, j * 2 + 1, none⟩ = some u := ⟨_, hcr5.cell (j * 2 + 1) (by omega)⟩
     have hf2 := blk_froz hcr5 (j * 2)
     have hf3 := blk_froz hcr5 (j * 2 + 1)
     clear hz5 hu0 hu1 hf0 hf1
     go_wp2
     have hbo5 : Below B wo w5 := hbs.trans (hb5.mono (by omega))
     have hbw5 : Below w.heap.size w w5 := hbws.trans (hb5.mono hbws.size)
     have hbx5 := (hbo5.block _ (by omega)).trans hbx'
     have hrs5 := (hbo5.block _ (by omega)).trans hrs'
     refine ⟨⟨j + 1, _, by omega, by go_num, (hcr5.set (j * 2) (.slice (some ⟨B + 1, 0, none⟩) vals.length vals.length)).set (j * 2 + 1) (.iface T5 z5), by simpa using hcl, ?_, stay_set (stay_set hbx5 (show w.heap.size ≠ w.heap.size + 1 + 1 by omega)) (show w.heap.size ≠ w.heap.size + 1 + 1 by omega), stay_set (stay_set hrs5 (show w.heap.size + 1 ≠ w.heap.size + 1 + 1 by omega)) (show w.heap.size + 1 ≠ w.heap.size + 1 + 1 by omega), below_set (below_set hbw5 (by omega) _ _) (by omega) _ _⟩, by simp [intOf]; omega⟩
     have h := HBT1.out.put (w' := (w5.setCell ⟨w.heap.size + 1 + 1, j * 2, none⟩ (.slice (some ⟨B + 1, 0, none⟩) vals.length vals.length)).setCell ⟨w.heap.size + 1 + 1, j * 2 + 1, none⟩ (.iface T5 z5)) (vs := .slice (some ⟨B + 1, 0, none⟩) vals.length vals.length) (fun _ _ _ h => own_set (own_set (own_below h hb5) hcr5 (by decide)) (hcr5.set _ _) (by decide)) (fun _ _ _ h => own_set (own_set (own_below h hb5) hcr5 (by decide)) (hcr5.set _ _) (by decide)) (by rw [hrl]; exact hcl) (by rw [hrl]; exact hlt) (by rw [HRB.out]; exact HRV.out.mono (fun _ _ _ h => own_set (own_set (own_below h hb5) hcr5 (by decide)) (hcr5.set _ _) (by decide)) (fun _ _ _ h => own_set (own_set (own_below h hb5) hcr5 (by decide)) (hcr5.set _ _) (by decide)))
     rw [HRB.out] at h
     simp only [HZ5.out] at h
     exact hide h
  ·have hjb : j = bks.length := by omega
   have r0 := blk_cell hbx' 0 _ rfl
   have r1 := blk_cell hbx' 1 _ rfl
   have q0 := blk_cell hrs' 0 _ rfl
   have q1 := blk_cell hrs' 1 _ rfl
   have z0 := blk_froz hrs' 0
   have z1 := blk_froz hrs' 1
   have hrep : RepBlks wr 0 (.slice (some ⟨w.heap.size + 1 + 1, 0, none⟩) bks.length bks.length) (Code.renB a b bks) := by
    have h := HBT.out
    rw [hjb, <- hrl] at h
    have h2 := h.rep hcr (by rw [hrl]; exact hcl) (by rw [hrl]; unfold maxLen; omega)
    rw [hrl] at h2
    exact h2
   have HREP := hide hrep
   clear hrep
   go_wp2
   have hr3 := set_block (o := 1) (v := .slice (some ⟨w.heap.size + 1 + 1, 0, none⟩) bks.length bks.length) (set_block (o := 0) (v := .int .i64 (args : Nat)) hrs')
   refine bodyPost_ret (v := .agg #[.int .i64 (args : Nat), .slice (some ⟨w.heap.size + 1 + 1, 0, none⟩) bks.length bks.length]) ?_ rfl ?_
   ·have d0 := blk_cell hr3 0 (.int .i64 (args : Nat)) rfl
    have d1 := blk_cell hr3 1 (.slice (some ⟨w.heap.size + 1 + 1, 0, none⟩) bks.length bks.length) rfl
    simp [results, Tryz.results128, go_sem, d0, d1]
   ·refine ⟨_, _, rfl, ?_, below_set (below_set hbw (by omega) _ _) (by omega) _ _⟩
    exact ((HREP.out.set hrs' (by decide) (by decide) (by decide)).set (set_block hrs') (by decide) (by decide) (by decide))
theorem RepVals.ones {w : World} {base : Nat} {l : List Code.Val} {cs : List Value} (h1 : cs.length = l.length * 2) (h2 : ∀ i (h : i < l.length), ∃ th, cs[i * 2]? = some (.int .i64 (l[i].num : Nat)) /\ cs[i * 2 + 1]? = some th /\ ThingV w base l[i].thing th) : ∀ u ∈ cs, u.oneCell' = true := by
 intro u hu
 obtain ⟨j, hj, rfl⟩ := List.getElem_of_mem hu
 obtain ⟨th, g0, g1, g2⟩ := h2 (j / 2) (by omega)
 rcases Nat.mod_two_eq_zero_or_one j with h | h
 ·have e : j = j / 2 * 2 := by omega
  rw [<- e, List.getElem?_eq_getElem hj, Option.some.injEq] at g0
  rw [g0]; rfl
 ·have e : j = j / 2 * 2 + 1 := by omega
  rw [<- e, List.getElem?_eq_getElem hj, Option.some.injEq] at g1
  obtain ⟨T, pv, hp⟩ := g2.shape
  rw [g1, hp]; rfl
theorem RepBlks.ones {w : World} {base : Nat} {l : List Code.Blk} {cs : List Value} (h1 : cs.length = l.length * 2) (h2 : ∀ i (h : i < l.length), ∃ vs, cs[i * 2]? = some vs /\ cs[i * 2 + 1]? = some (lastV l[i].last) /\ RepVals w base vs l[i].values) : ∀ u ∈ cs, u.oneCell' = true := by
 intro u hu
 obtain ⟨j, hj, rfl⟩ := List.getElem_of_mem hu
 obtain ⟨vs, g0, g1, g2⟩ := h2 (j / 2) (by omega)
 rcases Nat.mod_two_eq_zero_or_one j with h | h
 ·have e : j = j / 2 * 2 := by omega
  rw [<- e, List.getElem?_eq_getElem hj, Option.some.injEq] at g0
  obtain ⟨p, c, hp, _⟩ := g2.open
  rw [g0, hp]; rfl
 ·have e : j = j / 2 * 2 + 1 := by omega
  rw [<- e, List.getElem?_eq_getElem hj, Option.some.injEq] at g1
  obtain ⟨T, pv, hp⟩ := lastV_shape l[j / 2].last
  rw [g1, hp]; rfl
theorem cloneB_any (v : Value) (n base : Nat) (cs : List Value) (w : World) (h : w.ownsRow base 165 2 v n cs) (hn : n <= 100000) (hone : ∀ u ∈ cs, u.oneCell' = true) :
  Calls Tryz.prog 170 #[v] w fun e w' => ∃ r, e = .returned r /\ w'.ownsRow w.heap.size 165 2 r n cs /\ Below w.heap.size w w' := by
 obtain ⟨i0, hi, hz0, hz1, hz2⟩ := info_parts infoBlk
 rcases h.2 with ⟨rfl, rfl⟩ | ⟨g, cap, cur, rfl, hbg, hgg, hnc, hcm, hcs, htk⟩
 ·have hcs : cs = [] := List.eq_nil_of_length_eq_zero (by rw [h.1])
  subst hcs
  clear h
  have hnil : ∀ W : World, (binOp .eql 76 (.slice none 0 0) (.slice none 0 0)).run Tryz.prog W = .ok (.bool true) W := fun W => by kernel_rfl
  go_enter Tryz.func170, Tryz.ntmps170
  go_wp2
  go_ret
  exact ⟨_, rfl, World.ownsRow_nil _ _ _ _, Below.refl _ _⟩
 ·have hg := lt_of_block hgg
  have hcell : ∀ (o : Obj) j u, cs[j]? = some u -> (w.alloc o).cell? ((⟨g, 0, none⟩ : Addr).add j) = some u := by
   intro o j u hu
   have hj : j < n * 2 := by
    have := (List.getElem?_eq_some_iff.1 hu).1
    rw [h.1] at this; exact this
   have h1 := h.cellAt j hj
   rw [hu] at h1
   have h2 : (w.alloc o).heap[g]? = w.heap[g]? := Below.heap_alloc _ _ _ hg
   rw [show ((⟨g, 0, none⟩ : Addr).add j) = ⟨g, j, none⟩ by simp only [Addr.add]; split <;> simp_all]
   simpa [World.cell?, h2] using h1
  have hlen := h.1
  have hnil : ∀ W : World, (binOp .eql 76 (.slice (some ⟨g, 0, none⟩) n cap) (.slice none 0 0)).run Tryz.prog W = .ok (.bool false) W := fun W => by kernel_rfl
  have HOWN := hide h
  clear h hgg htk hcs
  have hnew := fun w' : World => World.ownsRow_lit (base := w'.heap.size) (e := 165) (size := 2) w' #[] 0 (Nat.le_refl _) (by decide) rfl
  go_enter Tryz.func170, Tryz.ntmps170
  go_wp2_with (first | (at_builtin; refine wpList_append_own _ rfl _ _ 76 rfl w.heap.size 165 i0 (.agg #[.slice none 0 0, .nilIface]) 2 40 Tryz.underlying76 hi hz0 hz1 hz2 rfl (by decide) _ _ _ rfl (hnew w) ⟨g, 0, none⟩ n cap cs rfl hlen (hcell _) hone (by unfold maxLen; omega) (by omega) (by simp) ?_; intro v' w3 hown' hgrow hnil; obtain ⟨vp, vc, rfl⟩ := own_slice hown'))
  go_ret
  refine ⟨_, rfl, ?_, ?_⟩
  ·rw [Nat.zero_add] at hown'
   simpa using hown'
  ·exact (below_al (Below.refl w.heap.size w) _).grown hgrow (by simp) (fun j hj => by cases hj; exact Nat.le_refl _)
theorem cloneV_any (v : Value) (n base : Nat) (cs : List Value) (w : World) (h : w.ownsRow base 169 2 v n cs) (hn : n <= 100000) (hone : ∀ u ∈ cs, u.oneCell' = true) :
  Calls Tryz.prog 215 #[v] w fun e w' => ∃ r, e = .returned r /\ w'.ownsRow w.heap.size 169 2 r n cs /\ Below w.heap.size w w' := by
 obtain ⟨i0, hi, hz0, hz1, hz2⟩ := info_parts infoVal
 rcases h.2 with ⟨rfl, rfl⟩ | ⟨g, cap, cur, rfl, hbg, hgg, hnc, hcm, hcs, htk⟩
 ·have hcs : cs = [] := List.eq_nil_of_length_eq_zero (by rw [h.1])
  subst hcs
  clear h
  have hnil : ∀ W : World, (binOp .eql 161 (.slice none 0 0) (.slice none 0 0)).run Tryz.prog W = .ok (.bool true) W := fun W => by kernel_rfl
  go_enter Tryz.func215, Tryz.ntmps215
  go_wp2
  go_ret
  exact ⟨_, rfl, World.ownsRow_nil _ _ _ _, Below.refl _ _⟩
 ·have hg := lt_of_block hgg
  have hcell : ∀ (o : Obj) j u, cs[j]? = some u -> (w.alloc o).cell? ((⟨g, 0, none⟩ : Addr).add j) = some u := by
   intro o j u hu
   have hj : j < n * 2 := by
    have := (List.getElem?_eq_some_iff.1 hu).1
    rw [h.1] at this; exact this
   have h1 := h.cellAt j hj
   rw [hu] at h1
   have h2 : (w.alloc o).heap[g]? = w.heap[g]? := Below.heap_alloc _ _ _ hg
   rw [show ((⟨g, 0, none⟩ : Addr).add j) = ⟨g, j, none⟩ by simp only [Addr.add]; split <;> simp_all]
   simpa [World.cell?, h2] using h1
  have hlen := h.1
  have hnil : ∀ W : World, (binOp .eql 161 (.slice (some ⟨g, 0, none⟩) n cap) (.slice none 0 0)).run Tryz.prog W = .ok (.bool false) W := fun W => by kernel_rfl
  have HOWN := hide h
  clear h hgg htk hcs
  have hnew := fun w' : World => World.ownsRow_lit (base := w'.heap.size) (e := 169) (size := 2) w' #[] 0 (Nat.le_refl _) (by decide) rfl
  go_enter Tryz.func215, Tryz.ntmps215
  go_wp2_with (first | (at_builtin; refine wpList_append_own _ rfl _ _ 161 rfl w.heap.size 169 i0 (.agg #[.int .i64 0, .nilIface]) 2 24 Tryz.underlying161 hi hz0 hz1 hz2 rfl (by decide) _ _ _ rfl (hnew w) ⟨g, 0, none⟩ n cap cs rfl hlen (hcell _) hone (by unfold maxLen; omega) (by omega) (by simp) ?_; intro v' w3 hown' hgrow hnil; obtain ⟨vp, vc, rfl⟩ := own_slice hown'))
  go_ret
  refine ⟨_, rfl, ?_, ?_⟩
  ·rw [Nat.zero_add] at hown'
   simpa using hown'
  ·exact (below_al (Below.refl w.heap.size w) _).grown hgrow (by simp) (fun j hj => by cases hj; exact Nat.le_refl _)
theorem grow_any (n : Nat) (w : World) (hn : n <= 1000000) :
  Calls Tryz.prog 208 #[.slice none 0 0, .int .i64 (n : Nat)] w fun e w' => ∃ r, e = .returned r /\ w'.ownsRow w.heap.size 169 2 r 0 [] /\ Below w.heap.size w w' := by
 obtain ⟨i0, hi, hz0, hz1, hz2⟩ := info_parts infoVal
 by_cases h0 : n = 0
 ·subst h0
  go_enter Tryz.func208, Tryz.ntmps208
  go_wp2
  go_ret
  exact ⟨_, rfl, World.ownsRow_nil _ _ _ _, Below.refl _ _⟩
 ·have hpos : 0 < n := by omega
  have hpos' : (0 : Int) < (n : Int) := by omega
  have hneg : ¬ (n : Int) < 0 := by omega
  have hrun := fun (ty : TypeId) (k : IntKind) => Lib.run_append_nil_zeros (P := Tryz.prog) w 161 3 ty 169 i0 (.agg #[.int .i64 0, .nilIface]) k .i64 Tryz.underlying161 Tryz.underlying3 hi hz0 n hpos (by omega) (by omega) (by rw [hz2]; omega)
  generalize hW : w.drew.alloc _ = W at hrun
  generalize hG : grownCap w n 0 169 = cap at hrun hW
  go_enter Tryz.func208, Tryz.ntmps208
  go_wp2_with (first | (at_builtin; refine Lib.wpList_append_run _ rfl _ _ _ _ rfl _ _ rfl rfl _ _ (hrun _ .i64) ?_))
  go_ret
  have hge : n <= cap := by rw [<- hG]; exact grownCap_ge w n 0 169
  have hle : cap <= maxLen := by rw [<- hG]; exact grownCap_le_maxLen w n 0 169 (by unfold maxLen; omega)
  refine ⟨_, rfl, ⟨rfl, Or.inr ⟨w.heap.size, cap, Builtin.zeroCells (Value.agg #[Value.int .i64 0, Value.nilIface]).cells n ++ Builtin.zeroCells (Value.agg #[Value.int .i64 0, Value.nilIface]).cells (cap - n), rfl, Nat.le_refl _, ?_, Nat.zero_le _, hle, ?_, by simp⟩⟩, ?_⟩
  ·rw [<- hW]
   exact heap_alloc_new w.drew _
  ·simp [size_zeroCells, Value.cells]; omega
  ·rw [<- hW]
   exact below_al (Below.refl w.heap.size w).drew _
def SlV (w : World) (v : Value) (n : Nat) (cs : List Value) : Prop :=
 (v = .slice none 0 0 /\ n = 0 /\ cs = []) \/ ∃ ad c, v = .slice (some ad) n c /\ n <= c /\ cs.length = n * 2 /\ ad.block < w.heap.size /\ (∀ j u, cs[j]? = some u -> w.cell? (ad.add j) = some u) /\ ∀ u ∈ cs, u.oneCell' = true
theorem SlV.below {w w' : World} {v : Value} {n : Nat} {cs : List Value} (h : SlV w v n cs) (hb : Below w.heap.size w w') : SlV w' v n cs := by
 rcases h with h | ⟨ad, c, h1, h1', h2, h3, h4, h5⟩
 ·exact Or.inl h
 ·refine Or.inr ⟨ad, c, h1, h1', h2, Nat.lt_of_lt_of_le h3 hb.size, fun j u hu => ?_, h5⟩
  have h6 := h4 j u hu
  have h7 : (ad.add j).block = ad.block := by unfold Addr.add; split <;> rfl
  have h8 := hb.block ad.block h3
  rw [<- h6]
  simp only [World.cell?, h7, h8]
theorem SlV.shape {w : World} {v : Value} {n : Nat} {cs : List Value} (h : SlV w v n cs) : ∃ p c, v = .slice p n c /\ n <= c /\ cs.length = n * 2 := by
 rcases h with ⟨rfl, rfl, rfl⟩ | ⟨ad, c, rfl, h1, h2, _⟩
 ·exact ⟨none, 0, rfl, Nat.le_refl _, rfl⟩
 ·exact ⟨_, _, rfl, h1, h2⟩
theorem SlV.own {w : World} {base n : Nat} {v : Value} {cs : List Value} (h : w.ownsRow base 169 2 v n cs) (hone : ∀ u ∈ cs, u.oneCell' = true) : SlV w v n cs := by
 rcases h.2 with ⟨rfl, rfl⟩ | ⟨g, cap, cur, rfl, hbg, hgg, hnc, hcm, hcs, htk⟩
 ·exact Or.inl ⟨rfl, rfl, List.eq_nil_of_length_eq_zero (by rw [h.1])⟩
 ·refine Or.inr ⟨_, _, rfl, hnc, h.1, lt_of_block hgg, fun j u hu => ?_, hone⟩
  have hj : j < n * 2 := by
   have := (List.getElem?_eq_some_iff.1 hu).1
   rw [h.1] at this; exact this
  have h1 := h.cellAt j hj
  rw [hu] at h1
  rw [show ((⟨g, 0, none⟩ : Addr).add j) = ⟨g, j, none⟩ by simp only [Addr.add]; split <;> simp_all]
  exact h1
theorem wpList_append_sl {ops : Array Oper} {rest : List Oper} {o : Oper} {a : Act} {Q : Exit -> Act -> World -> Prop} (w : World) (hgd : o.guard = none) (s x : Operand)
  (ho : o.op = .call { callee := .builtin .append, args := #[s, x], argTypes := #[161, 161] }) (base : Nat)
  (v : Value) (n : Nat) (xs : List Value) (hs : a.eval s = v) (hown : w.ownsRow base 169 2 v n xs)
  (sv : Value) (m : Nat) (news : List Value) (hx : a.eval x = sv) (hsv : SlV w sv m news) (hn : n + m <= 10000000) (hbase : base <= w.heap.size)
  (h : ∀ v' w', w'.ownsRow base 169 2 v' (n + m) (xs ++ news) -> w.grownBy w' v.ownBlock -> wpList Tryz.prog ops Q rest (a.put o.dst v') w') : wpList Tryz.prog ops Q (o :: rest) a w := by
 obtain ⟨i0, hi, hz0, hz1, hz2⟩ := info_parts infoVal
 rcases hsv with ⟨rfl, rfl, rfl⟩ | ⟨ad, c, rfl, hmc, hl, _, hcell, hone⟩
 ·refine Lib.wpList_append_run w hgd s x _ _ ho v _ hs hx v w (run_append_owned_none w base _ _ 169 i0 2 Tryz.underlying161 hi v n xs hown) ?_
  refine h v w (by simpa using hown) ⟨rfl, rfl, rfl, Nat.le_refl _, fun _ _ _ => rfl⟩
 ·refine wpList_append_own w hgd s x _ ho base 169 i0 (.agg #[.int .i64 0, .nilIface]) 2 24 Tryz.underlying161 hi hz0 hz1 hz2 rfl (by decide) v n xs hs hown ad m c news hx hl hcell hone (by unfold maxLen; omega) (by omega) hbase ?_
  intro v' w' h1 h2 _
  exact h v' w' h1 h2
theorem concat_any (h : Nat) (a b c : Value) (na nb nc : Nat) (ca cb cc : List Value) (w : World) (hh : w.heap[h]? = some (.cells #[a, b, c] 161)) (ha : SlV w a na ca) (hb : SlV w b nb cb) (hc : SlV w c nc cc) (hna : na <= 100000) (hnb : nb <= 100000) (hnc : nc <= 100000) :
  Calls Tryz.prog 171 #[.slice (some ⟨h, 0, none⟩) 3 3] w fun e w' => ∃ r, e = .returned r /\ w'.ownsRow w.heap.size 169 2 r (na + nb + nc) (ca ++ cb ++ cc) /\ Below w.heap.size w w' := by
 obtain ⟨i0, hi, hz0, hz1, hz2⟩ := info_parts infoVal
 have HA := hide ha
 have HB := hide hb
 have HC := hide hc
 have HH := hide hh
 obtain ⟨pa, xa, rfl, hla, hca⟩ := ha.shape
 obtain ⟨pb, xb, rfl, hlb, hcb⟩ := hb.shape
 obtain ⟨pc, xc, rfl, hlc, hcc⟩ := hc.shape
 have HGR : Hid (∀ w1, Calls Tryz.prog 208 #[.slice none 0 0, .int .i64 ((na : Int) + (nb : Int) + (nc : Int))] w1 fun e w' => ∃ r, e = .returned r /\ w'.ownsRow w1.heap.size 169 2 r 0 [] /\ Below w1.heap.size w1 w') := hide fun w1 => by
  have h := grow_any (na + nb + nc) w1 (by omega)
  simp only [Int.natCast_add] at h
  exact h
 have d0 := blk_cell hh 0 _ rfl
 have d1 := blk_cell hh 1 _ rfl
 have d2 := blk_cell hh 2 _ rfl
 have hhl := lt_of_block hh
 clear ha hb hc
 go_enter Tryz.func171, Tryz.ntmps171
 go_wp2_with fail
 refine wp_loop_rounds 4 ?_
 rw [rounds_succ]
 go_wp2_with fail
 rw [rounds_succ]
 go_wp2_with fail
 rw [rounds_succ]
 go_wp2_with fail
 rw [rounds_succ]
 go_wp2_with fail
 refine (HGR.out w).mono ?_
 rintro e w1 ⟨r, rfl, hown1, hb1⟩
 obtain ⟨rp, rc, rfl⟩ := own_slice hown1
 have hh1 := (hb1.block _ hhl).trans HH.out
 have a0 := blk_cell hh1 0 _ rfl
 clear d0 d1 d2
 go_wp2_with fail
 refine wp_loop_rounds 4 ?_
 rw [rounds_succ]
 go_wp2_with (first | (at_builtin; refine wpList_append_sl _ rfl _ _ rfl w.heap.size _ _ _ rfl hown1 _ na ca rfl (HA.out.below hb1) (by omega) hb1.size ?_; intro v2 w2 hown2 hg2; have hb2 : Below w.heap.size w w2 := hb1.grown hg2 hb1.size (fun j hj => (hown1.lt j hj).1)))
 obtain ⟨rp2, rc2, rfl⟩ := own_slice hown2
 have hh2 := (hb2.block _ hhl).trans HH.out
 have a1 := blk_cell hh2 1 _ rfl
 clear a0
 rw [rounds_succ]
 go_wp2_with (first | (at_builtin; refine wpList_append_sl _ rfl _ _ rfl w.heap.size _ _ _ rfl hown2 _ nb cb rfl (HB.out.below hb2) (by omega) hb2.size ?_; intro v3 w3 hown3 hg3; have hb3 : Below w.heap.size w w3 := hb2.grown hg3 hb2.size (fun j hj => (hown2.lt j hj).1)))
 obtain ⟨rp3, rc3, rfl⟩ := own_slice hown3
 have hh3 := (hb3.block _ hhl).trans HH.out
 have a2 := blk_cell hh3 2 _ rfl
 clear a1
 rw [rounds_succ]
 go_wp2_with (first | (at_builtin; refine wpList_append_sl _ rfl _ _ rfl w.heap.size _ _ _ rfl hown3 _ nc cc rfl (HC.out.below hb3) (by omega) hb3.size ?_; intro v4 w4 hown4 hg4; have hb4 : Below w.heap.size w w4 := hb3.grown hg4 hb3.size (fun j hj => (hown3.lt j hj).1)))
 obtain ⟨rp4, rc4, rfl⟩ := own_slice hown4
 rw [rounds_succ]
 go_wp2
 go_ret
 exact ⟨_, rfl, by simpa using hown4, hb4⟩
end Go.Proofs.YtedkjanogjglkaaGreatDoor
