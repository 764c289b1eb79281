/-
  Parts of the proof: RDel2, RSwept, RSwept2.
-/
import Derived.Test.YtedkjanogjglkaaGreatDoorP16
import Derived.Test.YtedkjanogjglkaaGreatDoorP07
set_option maxRecDepth 100000
set_option maxHeartbeats 8000000
namespace Go.Proofs.YtedkjanogjglkaaGreatDoor
open Go.RowKit
def keepsR (R : List Bool) (v : Code.Val) : Bool := !goesV R v
namespace Code
theorem filter_take (q : Val -> Bool) (l : List Val) (j : Nat) (h : j < l.length) : (l.take (j + 1)).filter q = if q l[j] = true then (l.take j).filter q ++ [l[j]] else (l.take j).filter q := by
 rw [take_val l j h, List.filter_append, List.filter_cons, List.filter_nil]
 split
 ·rfl
 ·rw [List.append_nil]
end Code
structure Moved (w : World) (xs : List Value) (R : List Bool) (l : List Code.Val) (i j : Nat) : Prop where
 len : ((l.take j).filter (keepsR R)).length = i
 front : ∀ q (h : q < ((l.take j).filter (keepsR R)).length), VAt w xs q ((l.take j).filter (keepsR R))[q]
 rest : ∀ q (h : q < l.length), j <= q -> VAt w xs q l[q]
theorem Moved.mono {w w' : World} {xs : List Value} {R : List Bool} {l : List Code.Val} {i j : Nat} (h : Moved w xs R l i j) (hk : ∀ r n xs, w.ownsRow 0 3 1 r n xs -> w'.ownsRow 0 3 1 r n xs) : Moved w' xs R l i j :=
 ⟨h.len, fun q hq => (h.front q hq).mono hk, fun q hq hj => (h.rest q hq hj).mono hk⟩
theorem Moved.skip {w : World} {xs : List Value} {R : List Bool} {l : List Code.Val} {i j : Nat} (h : Moved w xs R l i j) (hj : j < l.length) (hg : goesV R l[j] = true) : Moved w xs R l i (j + 1) := by
 have e : (l.take (j + 1)).filter (keepsR R) = (l.take j).filter (keepsR R) := by
  rw [Code.filter_take _ l j hj, if_neg (by simp [keepsR, hg])]
 obtain ⟨h1, h2, h3⟩ := h
 refine ⟨by rw [e]; exact h1, ?_, fun q hq hjq => h3 q hq (by omega)⟩
 rw [e]; exact h2
theorem Moved.move {w w' : World} {xs : List Value} {R : List Bool} {l : List Code.Val} {i j : Nat} (h : Moved w xs R l i j) (hk : ∀ r n xs, w.ownsRow 0 3 1 r n xs -> w'.ownsRow 0 3 1 r n xs) (hxl : xs.length = l.length * 2) (hij : i < j) (hj : j < l.length) (hg : goesV R l[j] = false) {th : Value} (hth : ThingV w' 0 l[j].thing th) :
  Moved w' ((xs.set (i * 2) (.int .i64 (l[j].num : Nat))).set (i * 2 + 1) th) R l (i + 1) (j + 1) := by
 have e : (l.take (j + 1)).filter (keepsR R) = (l.take j).filter (keepsR R) ++ [l[j]] := by
  rw [Code.filter_take _ l j hj, if_pos (by simp [keepsR, hg])]
 obtain ⟨h1, h2, h3⟩ := h
 have hset : ∀ q y, q ≠ i -> VAt w xs q y -> VAt w' ((xs.set (i * 2) (.int .i64 (l[j].num : Nat))).set (i * 2 + 1) th) q y := by
  intro q y hq hv
  obtain ⟨t, a, b, c⟩ := hv
  exact ⟨t, by rw [List.getElem?_set_ne (by omega), List.getElem?_set_ne (by omega)]; exact a, by rw [List.getElem?_set_ne (by omega), List.getElem?_set_ne (by omega)]; exact b, c.mono hk⟩
 refine ⟨by rw [e, List.length_append, h1]; rfl, ?_, fun q hq hjq => hset q _ (by omega) (h3 q hq (by omega))⟩
 rw [e]
 intro q hq
 by_cases hqi : q < i
 ·rw [List.getElem_append_left (by omega)]
  exact hset q _ (by omega) (h2 q (by omega))
 ·have hqe : q = i := by rw [List.length_append, h1, List.length_singleton] at hq; omega
  subst hqe
  rw [List.getElem_append_right (by omega)]
  have e2 : q - ((l.take j).filter (keepsR R)).length = 0 := by omega
  simp only [e2, List.getElem_singleton]
  exact ⟨th, by rw [List.getElem?_set_ne (by omega), List.getElem?_set_self (by omega)], by rw [List.getElem?_set_self (by simp; omega)], hth⟩
theorem Moved.start {w : World} {xs : List Value} {R : List Bool} {l : List Code.Val} {k : Nat} (hk : k < l.length) (hg : goesV R l[k] = true) (hb : ∀ j (hj : j < l.length), j < k -> goesV R l[j] = false) (hv : ∀ q (h : q < l.length), VAt w xs q l[q]) : Moved w xs R l k (k + 1) := by
 have hf : ∀ j, j <= k -> (l.take j).filter (keepsR R) = l.take j := by
  intro j hj
  rw [List.filter_eq_self]
  intro x hx
  obtain ⟨q, hq, rfl⟩ := List.getElem_of_mem hx
  simp only [List.length_take] at hq
  rw [List.getElem_take]
  simp [keepsR, hb q (by omega) (by omega)]
 have h0 : Moved w xs R l k k := by
  refine ⟨by rw [hf k (Nat.le_refl _), List.length_take]; omega, ?_, fun q hq _ => hv q hq⟩
  rw [hf k (Nat.le_refl _)]
  intro q hq
  simp only [List.length_take] at hq
  rw [List.getElem_take]
  exact hv q (by omega)
 exact h0.skip hk hg
theorem grown_cells (g o : Nat) (vs : List Value) (w : World) : w.grownBy (w.setCells g o vs) (some g) := by
 obtain ⟨h1, h2, h3⟩ := setCells_rest g vs o w
 exact ⟨h1, h2, h3, by rw [setCells_size]; exact Nat.le_refl _, fun k _ hk => setCells_other g (by simpa using hk) vs o w⟩
theorem delete_any (R : List Bool) (hR : R.length = 60) (l : List Code.Val) (np : Option Addr) (nc ub : Nat) (w : World) (hs : setRow w ub R) (hl : RepVals w 0 (.slice np l.length nc) l) (hn : l.length <= 100000) (h60 : ∀ v ∈ l, v.num < 60) :
  Calls Tryz.prog 214 #[.slice np l.length nc, .func (.func 216) #[] #[.pointer (some ⟨ub, 0, none⟩)]] w fun e w' => (∃ v, e = .returned v /\ RepVals w' 0 v (l.filter (keepsR R))) /\ w.grownBy w' (Value.slice np l.length nc).ownBlock := by
 have HI := hide (indexV_any R hR l np nc ub w hs hl hn h60)
 have HS := hide hs
 have HL := hide hl
 have H60 := hide h60
 clear hs hl h60
 go_enter Tryz.func214, Tryz.ntmps214
 go_wp2_with fail
 refine (HI.out).mono ?_
 cases hf : l.findIdx? (goesV R) with
 | none =>
  rintro e w1 ⟨rfl, hb1⟩
  have HF : Hid (l.filter (keepsR R) = l) := by
   refine hide ?_
   rw [List.filter_eq_self]
   intro x hx
   rw [List.findIdx?_eq_none_iff] at hf
   simp [keepsR, hf x hx]
  unfold idxI
  clear hf HI
  go_wp2
  go_ret
  exact ⟨⟨_, rfl, by rw [HF.out]; exact HL.out.below hb1⟩, grown_below hb1⟩
 | some k =>
  rw [List.findIdx?_eq_some_iff_getElem] at hf
  obtain ⟨hk, hgk, hbk⟩ := hf
  rintro e w1 ⟨rfl, hb1⟩
  unfold idxI
  obtain ⟨xs, hown, hxs⟩ := HL.out.below hb1
  obtain ⟨g, cap, hge, _, hgl, _⟩ := row_open hown (by omega)
  simp only [Value.slice.injEq] at hge
  obtain ⟨rfl, _, rfl⟩ := hge
  have hst : Moved w1 xs R l k (k + 1) := Moved.start hk hgk (fun j hj hjk => by
   have := hbk j hjk
   simpa using this) (fun q hq => hxs q hq)
  have hs1 : setRow w1 ub R := (hb1.block _ (lt_of_block HS.out)).trans HS.out
  have hug : ub ≠ g := by
   rintro rfl
   exact own_ne hown hs1 (by decide) rfl
  have HSX := hide hxs
  clear hxs hgk hbk HI
  have hkk : (k : Int) + 1 <= (l.length : Int) := by omega
  have hkm : ((k : Int) == -1) = false := beq_eq_false_iff_ne.2 (by omega)
  go_wp2_with fail
  go_loopw [5, 6] (fun a b wr => ∃ (i j : Nat) (ys : List Value), i < j /\ j <= l.length /\ a = .int .i64 i /\ b = .int .i64 j /\ wr.ownsRow 0 169 2 (.slice (some ⟨g, 0, none⟩) l.length nc) l.length ys /\ Hid (Moved wr ys R l i j) /\ w1.grownBy wr (some g)) (fun _ b _ => l.length - (intOf b).toNat)
  case atStart => exact ⟨k, k + 1, xs, by omega, by omega, rfl, by go_num, hown, hide hst, grown_refl _ _⟩
  case round =>
   obtain ⟨i, j, ys, hij, hj, rfl, rfl, hoy, HM, hgr⟩ := hrel
   clear hst hown HSX
   have hyl := hoy.1
   by_cases hlt : j < l.length
   ·obtain ⟨th, d0, d1, hth⟩ := HM.out.rest j hlt (Nat.le_refl _)
    have hgb : ∃ C z, wr.heap[g]? = some (.cells C 169 z) := by
     rcases hoy.2 with ⟨h, _⟩ | ⟨g', cap', cur, hv, _, hg, _⟩
     ·cases h
     ·simp only [Value.slice.injEq, Option.some.injEq, Addr.mk.injEq] at hv
      obtain ⟨⟨rfl, _⟩, _, rfl⟩ := hv
      exact ⟨_, _, hg⟩
    obtain ⟨C, z, hgb⟩ := hgb
    have e0 := (hoy.cellAt (j * 2) (by omega)).trans d0
    have e1 := (hoy.cellAt (j * 2 + 1) (by omega)).trans d1
    have hsr : setRow wr ub R := kept_block hs1 hgr hug
    have hjl : (j : Int) < (l.length : Int) := by omega
    have hil : (i : Int) < (l.length : Int) := by omega
    have HG : Hid (∀ w2, Below wr.heap.size wr w2 -> Calls Tryz.prog 216 #[.agg #[.int .i64 (l[j].num : Nat), th], .pointer (some ⟨ub, 0, none⟩)] w2 fun e w' => e = .returned (.bool (goesV R l[j])) /\ Below w2.heap.size w2 w') := hide fun w2 h2 => gone_any R hR l[j] th ub w2 ((h2.block _ (lt_of_block hsr)).trans hsr) (hth.mono (fun _ _ _ h => own_below h h2)) (H60.out _ (List.getElem_mem hlt))
    have HTH := hide hth
    have hgbl := lt_of_block hgb
    obtain ⟨T, tv, rfl⟩ := hth.shape
    clear hth d0 d1
    cases hgo : goesV R l[j] with
    | true =>
     have HM2 := hide (HM.out.skip hlt hgo)
     rw [hgo] at HG
     clear hgo HM
     generalize l[j].num = x at *
     go_wp2_with fail
     generalize hw2 : wr.alloc _ = w2
     have hb2 : Below wr.heap.size wr w2 := by rw [<- hw2]; exact below_al (Below.refl _ _) _
     clear hw2
     refine (HG.out w2 hb2).mono ?_
     rintro e w3 ⟨rfl, hb3⟩
     have hb23 : Below wr.heap.size wr w3 := hb2.trans (hb3.mono hb2.size)
     go_wp2
     exact ⟨⟨i, j + 1, ys, by omega, by omega, rfl, by go_num, own_below hoy hb23, hide (HM2.out.mono (fun _ _ _ h => own_below h hb23)), grown_trans hgr (grown_below hb23)⟩, by simp [intOf]; omega⟩
    | false =>
     have HGO := hide hgo
     rw [hgo] at HG
     clear hgo
     generalize hx : l[j].num = x at *
     have HX := hide hx
     clear hx
     go_wp2_with fail
     generalize hw2 : wr.alloc _ = w2
     have hb2 : Below wr.heap.size wr w2 := by rw [<- hw2]; exact below_al (Below.refl _ _) _
     have hv2 : w2.heap[wr.heap.size]? = some (.cells #[.int .i64 (x : Nat), .iface T tv] 169) := by rw [<- hw2]; exact heap_alloc_new wr _
     clear hw2
     refine (HG.out w2 hb2).mono ?_
     rintro e w3 ⟨rfl, hb3⟩
     have hb23 : Below wr.heap.size wr w3 := hb2.trans (hb3.mono hb2.size)
     have hv3 := (hb3.block _ (lt_of_block hv2)).trans hv2
     have q0 := blk_cell hv3 0 _ rfl
     have q1 := blk_cell hv3 1 _ rfl
     have hoy3 := own_below hoy hb23
     obtain ⟨u0, hu0⟩ : ∃ u, w3.cell? ⟨g, i * 2, none⟩ = some u := ⟨_, own_cellAt hoy3 (i * 2) (by omega) (by omega)⟩
     obtain ⟨u1, hu1⟩ : ∃ u, w3.cell? ⟨g, i * 2 + 1, none⟩ = some u := ⟨_, own_cellAt hoy3 (i * 2 + 1) (by omega) (by omega)⟩
     have f0 := hoy3.frozenAt (i * 2)
     have f1 := hoy3.frozenAt (i * 2 + 1)
     have hgb3 := (hb23.block _ hgbl).trans hgb
     have hst1 := hoy3.stored (i * 2) (.int .i64 (x : Nat))
     have hst2 := hst1.1.stored (i * 2 + 1) (.iface T tv)
     have HOY4 := hide hst2.1
     have HG4 : Hid (w1.grownBy ((w3.setCell ⟨g, i * 2, none⟩ (.int .i64 (x : Nat))).setCell ⟨g, i * 2 + 1, none⟩ (.iface T tv)) (some g)) := hide (grown_trans (grown_trans hgr (grown_below hb23)) (grown_trans hst1.2 hst2.2))
     have HM4 : Hid (Moved ((w3.setCell ⟨g, i * 2, none⟩ (.int .i64 (x : Nat))).setCell ⟨g, i * 2 + 1, none⟩ (.iface T tv)) ((ys.set (i * 2) (.int .i64 (x : Nat))).set (i * 2 + 1) (.iface T tv)) R l (i + 1) (j + 1)) := by
      have hk : ∀ r n xs, wr.ownsRow 0 3 1 r n xs -> ((w3.setCell ⟨g, i * 2, none⟩ (.int .i64 (x : Nat))).setCell ⟨g, i * 2 + 1, none⟩ (.iface T tv)).ownsRow 0 3 1 r n xs := fun _ _ _ h => own_set (own_set (own_below h hb23) hgb3 (by decide)) (set_block hgb3) (by decide)
      have h := HM.out.move hk hyl hij hlt HGO.out (HTH.out.mono hk)
      rw [HX.out] at h
      exact hide h
     clear hst1 hst2 HM
     go_wp2
     exact ⟨⟨i + 1, j + 1, _, by omega, by omega, by go_num, by go_num, HOY4.out, HM4, HG4.out⟩, by simp [intOf]; omega⟩
   ·have hje : j = l.length := by omega
    have hik : i < l.length := by omega
    have hcapn : l.length <= nc := own_cap hoy
    have hcur := hoy
    have hcl : ∀ ty, (Builtin.clear_ #[161] ty #[.slice (some ⟨g, i * 2, none⟩) (l.length - i) (nc - i)]).run Tryz.prog wr = .ok (.tuple #[]) (wr.setCells g (i * 2) (zeroVs (l.length - i))) := fun ty => clearV_run wr ty g (i * 2) (l.length - i) (nc - i) (by omega) (fun q hq => by
     rw [own_cellAt hoy (i * 2 + q) (by omega) (by omega)]; rfl) (fun q hq => hoy.frozenAt _)
    have HOC := hide (own_clear (zs := zeroVs (l.length - i)) hoy (Nat.le_of_lt hik) (zeroVs_length _))
    have hgb : ∃ C z, wr.heap[g]? = some (.cells C 169 z) := by
     rcases hoy.2 with ⟨h, _⟩ | ⟨g', cap', cur, hv, _, hg, _⟩
     ·cases h
     ·simp only [Value.slice.injEq, Option.some.injEq, Addr.mk.injEq] at hv
      obtain ⟨⟨rfl, _⟩, _, rfl⟩ := hv
      exact ⟨_, _, hg⟩
    obtain ⟨C, z, hgb⟩ := hgb
    have hil : (i : Int) <= (l.length : Int) := by omega
    have hine : ¬ nc = i := by omega
    have hinc : (i : Int) <= (nc : Int) := by omega
    have hi0 : (0 : Int) <= (i : Int) := by omega
    clear hcur
    go_wp2_with (simp only [hcl])
    go_ret
    refine ⟨⟨_, rfl, ?_⟩, grown_trans (grown_below hb1) (grown_trans hgr (grown_cells g (i * 2) (zeroVs (l.length - i)) wr))⟩
    obtain ⟨hm1, hm2, _⟩ := HM.out
    simp only [hje, List.take_length] at hm1 hm2
    refine ⟨ys.take (i * 2), by rw [hm1]; exact HOC.out, fun q hq => ?_⟩
    obtain ⟨th, a, b, c⟩ := hm2 q hq
    have hql : q < i := by rw [<- hm1]; exact hq
    refine ⟨th, by rw [List.getElem?_take_of_lt (by omega)]; exact a, by rw [List.getElem?_take_of_lt (by omega)]; exact b, c.mono (fun _ _ _ h => own_kept hgb (grown_cells g (i * 2) (zeroVs (l.length - i)) wr) h (by decide))⟩
def usedR (bks : List Code.Blk) : List Bool := Code.addNs noNumber (bks.flatMap Code.usesB)
theorem usedR_length (bks : List Code.Blk) : (usedR bks).length = 60 := by rw [usedR, Code.addNs_length]; rfl
theorem keeps_same (bks : List Code.Blk) (v : Code.Val) (h : v.num < 60) : keepsR (usedR bks) v = Code.keepsV bks v := by
 have h1 : (usedR bks).getD v.num false = Code.usedB bks v.num := by
  rw [usedR, Code.addNs_get _ _ _ (by simpa [noNumber] using h), Code.usedB]
  have : noNumber.getD v.num false = false := by
   rw [List.getD_eq_getElem?_getD, noNumber, List.getElem?_replicate]
   split <;> rfl
  rw [this, Bool.false_or]
 unfold keepsR goesV Code.keepsV
 rw [h1]
 cases Code.usedB bks v.num <;> cases Code.isDivT v.thing <;> rfl
theorem sweep1_get (bks : List Code.Blk) (j : Nat) (h : j < bks.length) : (Code.sweep1 bks)[j]'(by simpa [Code.sweep1] using h) = ⟨bks[j].values.filter (Code.keepsV bks), bks[j].last⟩ := by simp [Code.sweep1]
def goneTo (bks : List Code.Blk) (j : Nat) : Nat := ((bks.take j).map fun b => b.values.length - (b.values.filter (Code.keepsV bks)).length).sum
theorem goneTo_succ (bks : List Code.Blk) (j : Nat) (h : j < bks.length) : goneTo bks (j + 1) = goneTo bks j + (bks[j].values.length - (bks[j].values.filter (Code.keepsV bks)).length) := by
 unfold goneTo
 rw [List.take_add_one, List.getElem?_eq_getElem h, List.map_append, List.sum_append]
 simp
theorem goneTo_le (bks : List Code.Blk) (hl : ∀ b ∈ bks, b.values.length <= 100000) (hn : bks.length <= 8) (j : Nat) : goneTo bks j <= 800000 := by
 have key : ∀ (l : List Code.Blk), (∀ b ∈ l, b.values.length <= 100000) -> (l.map fun b => b.values.length - (b.values.filter (Code.keepsV bks)).length).sum <= l.length * 100000 := by
  intro l
  induction l with
  | nil => intro _; simp
  | cons b l ih =>
   intro h
   have h1 := ih (fun x hx => h x (List.mem_cons_of_mem _ hx))
   have h2 := h b List.mem_cons_self
   simp only [List.map_cons, List.sum_cons, List.length_cons]
   omega
 have h1 := key (bks.take j) (fun b hb => hl b (List.mem_of_mem_take hb))
 have h2 : (bks.take j).length <= 8 := by rw [List.length_take]; omega
 unfold goneTo
 omega
theorem sweptOnce_any (args : Nat) (bks : List Code.Blk) (p : Option Addr) (c : Nat) (w : World) (hf : RepBlks w 0 (.slice p bks.length c) bks) (hn : bks.length <= 8) (hl : ∀ b ∈ bks, b.values.length <= 100000) (h60 : ∀ b ∈ bks, ∀ v ∈ b.values, v.num < 60) (hu : UseOk bks) :
  Calls Tryz.prog 176 #[.agg #[.int .i64 (args : Nat), .slice p bks.length c]] w fun e w' => ∃ p' c', e = .returned (.tuple #[.agg #[.int .i64 (args : Nat), .slice p' bks.length c'], .int .i64 (goneTo bks bks.length : Nat)]) /\ RepBlks w' 0 (.slice p' bks.length c') (Code.sweep1 bks) /\ Below w.heap.size w w' := by
 have hmf : ∀ (fn : Fn) (first cap : Array Value) (w : World), (Instr.makeFunc fn first cap).run Tryz.prog w = .ok (.func fn first cap) w := fun _ _ _ _ => rfl
 obtain ⟨i1, hi, hi0, hi1, hi2⟩ := info_parts infoBlk
 have HUS : Hid (∀ w1, Below w.heap.size w w1 -> Calls Tryz.prog 213 #[.agg #[.int .i64 (args : Nat), .slice p bks.length c]] w1 fun e w' => e = .returned (.agg (setA (usedR bks))) /\ Below w1.heap.size w1 w') := hide fun w1 h1 => used_any args bks p c w1 (hf.below h1) hn hl hu
 have HL := hide hl
 have H60 := hide h60
 have HGL := hide (goneTo_le bks hl hn)
 obtain ⟨p', c', hpe, hblk⟩ := hf.open
 simp only [Value.slice.injEq] at hpe
 obtain ⟨rfl, _, rfl⟩ := hpe
 have HBLK := hide hblk
 have hRl := usedR_length bks
 generalize hRR : usedR bks = R at *
 have HRR := hide hRR
 have HS' := hide (setSize' R hRl)
 have HO := hide (setOne R)
 clear hblk hf hu hl h60 hRR
 go_enter Tryz.func176, Tryz.ntmps176
 go_wp2_with fail
 generalize hw0 : (w.alloc _).alloc _ = w0
 have hb0 : Below w.heap.size w w0 := by rw [<- hw0]; exact below_al (below_al (Below.refl _ _) _) _
 have hx0 : w0.heap[w.heap.size]? = some (.cells #[.int .i64 (args : Nat), .slice p bks.length c] 78) := by rw [<- hw0]; exact stay_alloc (heap_alloc_new w _)
 have hx1 : w0.heap[w.heap.size + 1]? = some (.cells #[.int .i64 0, .slice none 0 0] 78) := by
  have h := heap_alloc_new (w.alloc (.cells #[.int .i64 (args : Nat), .slice p bks.length c] 78)) (.cells #[.int .i64 0, .slice none 0 0] 78)
  rw [alloc_size] at h
  rw [<- hw0]; exact h
 clear hw0
 refine (HUS.out w0 hb0).mono ?_
 rintro e w1 ⟨rfl, hb1⟩
 have hx01 := (hb1.block _ (lt_of_block hx0)).trans hx0
 have hx11 := (hb1.block _ (lt_of_block hx1)).trans hx1
 have hbw1 : Below w.heap.size w w1 := hb0.trans (hb1.mono hb0.size)
 have hl0 := lt_of_block hx01
 have hl1 := lt_of_block hx11
 have HTHR : Hid ((w1.alloc (.cells #[.bool false, .bool false, .bool false, .bool false, .bool false, .bool false, .bool false, .bool false, .bool false, .bool false, .bool false, .bool false, .bool false, .bool false, .bool false, .bool false, .bool false, .bool false, .bool false, .bool false, .bool false, .bool false, .bool false, .bool false, .bool false, .bool false, .bool false, .bool false, .bool false, .bool false, .bool false, .bool false, .bool false, .bool false, .bool false, .bool false, .bool false, .bool false, .bool false, .bool false, .bool false, .bool false, .bool false, .bool false, .bool false, .bool false, .bool false, .bool false, .bool false, .bool false, .bool false, .bool false, .bool false, .bool false, .bool false, .bool false, .bool false, .bool false, .bool false, .bool false] 281)).there w1.heap.size 0 (setA R).size) := by
  have h := newThere w1
  rw [show 60 = (setA R).size by simp [setA, setL, hRl]] at h
  exact h
 have hs2' := newSet w1 R hRl
 have hb2' : Below w.heap.size w ((w1.alloc (.cells #[.bool false, .bool false, .bool false, .bool false, .bool false, .bool false, .bool false, .bool false, .bool false, .bool false, .bool false, .bool false, .bool false, .bool false, .bool false, .bool false, .bool false, .bool false, .bool false, .bool false, .bool false, .bool false, .bool false, .bool false, .bool false, .bool false, .bool false, .bool false, .bool false, .bool false, .bool false, .bool false, .bool false, .bool false, .bool false, .bool false, .bool false, .bool false, .bool false, .bool false, .bool false, .bool false, .bool false, .bool false, .bool false, .bool false, .bool false, .bool false, .bool false, .bool false, .bool false, .bool false, .bool false, .bool false, .bool false, .bool false, .bool false, .bool false, .bool false, .bool false] 281)).setCells w1.heap.size 0 (setL R).toArray.toList) := below_cells (below_al hbw1 _) hbw1.size _ _
 have hx02' : ((w1.alloc (.cells #[.bool false, .bool false, .bool false, .bool false, .bool false, .bool false, .bool false, .bool false, .bool false, .bool false, .bool false, .bool false, .bool false, .bool false, .bool false, .bool false, .bool false, .bool false, .bool false, .bool false, .bool false, .bool false, .bool false, .bool false, .bool false, .bool false, .bool false, .bool false, .bool false, .bool false, .bool false, .bool false, .bool false, .bool false, .bool false, .bool false, .bool false, .bool false, .bool false, .bool false, .bool false, .bool false, .bool false, .bool false, .bool false, .bool false, .bool false, .bool false, .bool false, .bool false, .bool false, .bool false, .bool false, .bool false, .bool false, .bool false, .bool false, .bool false, .bool false, .bool false] 281)).setCells w1.heap.size 0 (setL R).toArray.toList).heap[w.heap.size]? = some (.cells #[.int .i64 (args : Nat), .slice p bks.length c] 78) := stay_cells (stay_alloc hx01) (by omega)
 have hx12' : ((w1.alloc (.cells #[.bool false, .bool false, .bool false, .bool false, .bool false, .bool false, .bool false, .bool false, .bool false, .bool false, .bool false, .bool false, .bool false, .bool false, .bool false, .bool false, .bool false, .bool false, .bool false, .bool false, .bool false, .bool false, .bool false, .bool false, .bool false, .bool false, .bool false, .bool false, .bool false, .bool false, .bool false, .bool false, .bool false, .bool false, .bool false, .bool false, .bool false, .bool false, .bool false, .bool false, .bool false, .bool false, .bool false, .bool false, .bool false, .bool false, .bool false, .bool false, .bool false, .bool false, .bool false, .bool false, .bool false, .bool false, .bool false, .bool false, .bool false, .bool false, .bool false, .bool false] 281)).setCells w1.heap.size 0 (setL R).toArray.toList).heap[w.heap.size + 1]? = some (.cells #[.int .i64 0, .slice none 0 0] 78) := stay_cells (stay_alloc hx11) (by omega)
 obtain ⟨w2, hW2⟩ : ∃ w2, w2 = (w1.alloc (.cells #[.bool false, .bool false, .bool false, .bool false, .bool false, .bool false, .bool false, .bool false, .bool false, .bool false, .bool false, .bool false, .bool false, .bool false, .bool false, .bool false, .bool false, .bool false, .bool false, .bool false, .bool false, .bool false, .bool false, .bool false, .bool false, .bool false, .bool false, .bool false, .bool false, .bool false, .bool false, .bool false, .bool false, .bool false, .bool false, .bool false, .bool false, .bool false, .bool false, .bool false, .bool false, .bool false, .bool false, .bool false, .bool false, .bool false, .bool false, .bool false, .bool false, .bool false, .bool false, .bool false, .bool false, .bool false, .bool false, .bool false, .bool false, .bool false, .bool false, .bool false] 281)).setCells w1.heap.size 0 (setL R).toArray.toList := ⟨_, rfl⟩
 have hs2 : setRow w2 w1.heap.size R := by rw [hW2]; exact hs2'
 have hb2 : Below w.heap.size w w2 := by rw [hW2]; exact hb2'
 have hx02 : w2.heap[w.heap.size]? = some (.cells #[.int .i64 (args : Nat), .slice p bks.length c] 78) := by rw [hW2]; exact hx02'
 have hx12 : w2.heap[w.heap.size + 1]? = some (.cells #[.int .i64 0, .slice none 0 0] 78) := by rw [hW2]; exact hx12'
 have HW2 : Hid ((w1.alloc (.cells #[.bool false, .bool false, .bool false, .bool false, .bool false, .bool false, .bool false, .bool false, .bool false, .bool false, .bool false, .bool false, .bool false, .bool false, .bool false, .bool false, .bool false, .bool false, .bool false, .bool false, .bool false, .bool false, .bool false, .bool false, .bool false, .bool false, .bool false, .bool false, .bool false, .bool false, .bool false, .bool false, .bool false, .bool false, .bool false, .bool false, .bool false, .bool false, .bool false, .bool false, .bool false, .bool false, .bool false, .bool false, .bool false, .bool false, .bool false, .bool false, .bool false, .bool false, .bool false, .bool false, .bool false, .bool false, .bool false, .bool false, .bool false, .bool false, .bool false, .bool false] 281)).setCells w1.heap.size 0 (setA R).toList = w2) := hide hW2.symm
 clear hs2' hb2' hx02' hx12' hW2
 have hll0 := lt_of_block hx02
 have hll1 := lt_of_block hx12
 have hlls := lt_of_block hs2
 have f1 := blk_cell hx02 1 _ rfl
 go_wp2_with (first | (refine wpList_store_mid rfl 281 _ _ rfl w1.heap.size 0 (setA R) rfl rfl HTHR.out HS'.out HO.out ?_; rw [HW2.out]) | (at_make; refine wpList_make_full _ rfl _ _ 76 rfl w.heap.size 165 i1 (.agg #[.slice none 0 0, .nilIface]) 2 Tryz.underlying76 hi hi0 hi1 .i64 .i64 _ _ bks.length rfl rfl rfl rfl (by rw [hi2]; omega) (by unfold maxLen; omega) hb2.size ?_; intro w3 hown3 hgrow3; have hx03 : w3.heap[w.heap.size]? = some (.cells #[.int .i64 (args : Nat), .slice p bks.length c] 78) := (hgrow3.block _ (by omega) (by simp)).trans hx02; have f3 := blk_cell hx03 1 _ rfl; clear f1))
 generalize hub : w1.heap.size = ub at *
 clear HS' HO HUS HTHR HW2
 obtain ⟨hcr3, hcl3⟩ := cRow_made hown3
 have hx13 : w3.heap[w.heap.size + 1]? = some (.cells #[.int .i64 0, .slice none 0 0] 78) := (hgrow3.block _ (by omega) (by simp)).trans hx12
 have hs3 : setRow w3 ub R := (hgrow3.block _ (by omega) (by simp)).trans hs2
 have hb3 : Below w.heap.size w w3 := hb2.trans ⟨hgrow3.os, hgrow3.tape, hgrow3.output, hgrow3.size, fun k hk => hgrow3.block k (by omega) (by simp)⟩
 generalize (madeCells (Value.agg #[Value.slice none 0 0, Value.nilIface]).cells (bks.length * 2)).toList = cs0 at hcr3 hcl3
 generalize hG : w2.heap.size = G at *
 clear hown3 hgrow3 f3
 have hrl : (Code.sweep1 bks).length = bks.length := by simp [Code.sweep1]
 go_loopw [5, 19] (fun gn i wr => ∃ (j : Nat) (cs : List Value), j <= bks.length /\ gn = .int .i64 (goneTo bks j : Nat) /\ i = .int .i64 j /\ cRow wr G 165 cs /\ cs.length = bks.length * 2 /\ Hid (BlksTo wr cs (Code.sweep1 bks) j) /\ wr.heap[w.heap.size]? = some (.cells #[.int .i64 (args : Nat), .slice p bks.length c] 78) /\ wr.heap[w.heap.size + 1]? = some (.cells #[.int .i64 0, .slice none 0 0] 78) /\ setRow wr ub R /\ Below w.heap.size w wr) (fun _ i _ => bks.length - (intOf i).toNat)
 case atStart => exact ⟨0, cs0, by omega, rfl, rfl, hcr3, hcl3, hide (fun i hi h => by omega), hx03, hx13, hs3, hb3⟩
 case round =>
  obtain ⟨j, cs, hj, rfl, rfl, hcr, hcl, HBT, hbx, hrs, hsr, hbw⟩ := hrel
  clear hcr3 hcl3 hx03 hx13 hs3 hb3
  have hz := hbw.size
  by_cases hlt : j < bks.length
  ·obtain ⟨g, vs, rfl, hg, c0, c1, hvs⟩ := HBLK.out j hlt
   have hlen := HL.out bks[j] (List.getElem_mem hlt)
   have HNJ := hide (H60.out bks[j] (List.getElem_mem hlt))
   have HVS := hide (hvs.below hbw)
   obtain ⟨pv, cv, rfl, hval⟩ := hvs.open
   have c0' := bcell' hbw g _ hg _ c0
   obtain ⟨T, zv, hzv⟩ := lastV_shape bks[j].last
   rw [hzv] at c1
   have c1' := bcell' hbw g _ hg _ c1
   have HZ := hide hzv
   have HGS := hide (goneTo_succ bks j hlt)
   have hgle := HGL.out j
   have HFK : Hid (bks[j].values.filter (keepsR R) = bks[j].values.filter (Code.keepsV bks)) := by
    refine hide (List.filter_congr fun v hv => ?_)
    rw [<- HRR.out]
    exact keeps_same bks v (HNJ.out v hv)
   have HSG := hide (sweep1_get bks j hlt)
   have HCV : Hid (∀ w5, Below wr.heap.size wr w5 -> Calls Tryz.prog 215 #[.slice pv bks[j].values.length cv] w5 fun e w' => ∃ r, e = .returned r /\ (∃ cs, w'.ownsRow w5.heap.size 169 2 r bks[j].values.length cs /\ ValsCs w' cs bks[j].values) /\ Below w5.heap.size w5 w') := hide fun w5 h5 => by
    obtain ⟨ds, hd1, hd2⟩ := (HVS.out.below h5).cs
    refine (cloneV_any _ _ 0 ds w5 hd1 hlen hd2.ones).mono ?_
    rintro e w6 ⟨r, rfl, h6, hb6⟩
    exact ⟨r, rfl, ⟨ds, h6, hd2.below hb6⟩, hb6⟩
   clear hval c0 c1 hvs
   have hlG := lt_of_block hcr
   have hlb := lt_of_block hbx
   have hlr := lt_of_block hrs
   have hls := lt_of_block hsr
   generalize hvals : bks[j].values = vals at *
   go_wp2_with fail
   generalize hw4 : wr.alloc _ = w4
   have hb4 : Below wr.heap.size wr w4 := by rw [<- hw4]; exact below_al (Below.refl _ _) _
   have hk4 : w4.heap[wr.heap.size]? = some (.cells #[.slice pv vals.length cv, .iface T zv] 165) := by rw [<- hw4]; exact heap_alloc_new wr _
   clear hw4 c0' c1'
   refine (HCV.out w4 hb4).mono ?_
   rintro e w5 ⟨r, rfl, ⟨ds, hd1, hd2⟩, hb5⟩
   have hb45 : Below wr.heap.size wr w5 := hb4.trans (hb5.mono hb4.size)
   have hk5 := (hb5.block _ (lt_of_block hk4)).trans hk4
   obtain ⟨rp, rc, rfl⟩ := own_slice hd1
   have HDEL := hide (delete_any R hRl vals rp rc ub w5 ((hb45.block _ hls).trans hsr) (hd2.rep hd1) hlen HNJ.out)
   have HLT := hide (fun j hj => (hd1.lt j hj).1)
   clear hd1 hd2
   go_wp2_with fail
   refine (HDEL.out).mono ?_
   rintro e w6 ⟨⟨kv, rfl, hkv⟩, hg6⟩
   have hb6 : Below wr.heap.size wr w6 := hb45.grown hg6 hb45.size (fun j hj => by have := HLT.out j hj; have := hb4.size; omega)
   obtain ⟨kp, kc, rfl, _⟩ := hkv.open
   have hne : ∀ j, (Value.slice rp vals.length rc).ownBlock = some j -> j ≠ wr.heap.size := fun j hj => by
    have h1 := HLT.out j hj
    have h2 := lt_of_block hk4
    omega
   have hk6 : w6.heap[wr.heap.size]? = some (.cells #[.slice pv vals.length cv, .iface T zv] 165) := (hg6.block _ (lt_of_block hk5) (fun e => hne _ e.symm rfl)).trans hk5
   have HKV := hide hkv
   clear hkv hne
   have k0 := blk_cell hk6 0 _ rfl
   have k1 := blk_cell hk6 1 _ rfl
   have hcr6 : cRow w6 G 165 cs := (hb6.block _ hlG).trans hcr
   obtain ⟨u0, hu0⟩ : ∃ u, w6.cell? ⟨G, j * 2, none⟩ = some u := ⟨_, hcr6.cell (j * 2) (by omega)⟩
   obtain ⟨u1, hu1⟩ : ∃ u, w6.cell? ⟨G, j * 2 + 1, none⟩ = some u := ⟨_, hcr6.cell (j * 2 + 1) (by omega)⟩
   have hf0 := blk_froz hcr6 (j * 2)
   have hf1 := blk_froz hcr6 (j * 2 + 1)
   rw [HFK.out] at HKV
   have hkl : (vals.filter (keepsR R)).length <= vals.length := List.length_filter_le _ _
   rw [HFK.out] at hkl
   simp only [HFK.out]
   generalize hkn : (vals.filter (Code.keepsV bks)).length = kn at *
   generalize hgt : goneTo bks j = gt at *
   have hjl : (j : Int) < (bks.length : Int) := by omega
   go_wp2_with fail
   have hbN : Below w.heap.size w ((w6.setCell ⟨G, j * 2, none⟩ (.slice kp kn kc)).setCell ⟨G, j * 2 + 1, none⟩ (.iface T zv)) := below_set (below_set (hbw.trans (hb6.mono hz)) (by omega) _ _) (by omega) _ _
   refine ⟨⟨j + 1, _, by omega, ?_, by go_num, (hcr6.set (j * 2) (.slice kp kn kc)).set (j * 2 + 1) (.iface T zv), by simpa using hcl, ?_, stay_set (stay_set ((hb6.block _ hlb).trans hbx) (show w.heap.size ≠ G by omega)) (show w.heap.size ≠ G by omega), stay_set (stay_set ((hb6.block _ hlr).trans hrs) (show w.heap.size + 1 ≠ G by omega)) (show w.heap.size + 1 ≠ G by omega), stay_set (stay_set ((hb6.block _ hls).trans hsr) (show ub ≠ G by omega)) (show ub ≠ G by omega), hbN⟩, by simp [intOf]; omega⟩
   ·rw [HGS.out]
    congr 1
    omega
   ·have h := HBT.out.put (w' := (w6.setCell ⟨G, j * 2, none⟩ (.slice kp kn kc)).setCell ⟨G, j * 2 + 1, none⟩ (.iface T zv)) (vs := .slice kp kn kc) (fun _ _ _ h => own_set (own_set (own_below h hb6) hcr6 (by decide)) (hcr6.set _ _) (by decide)) (fun _ _ _ h => own_set (own_set (own_below h hb6) hcr6 (by decide)) (hcr6.set _ _) (by decide)) (by rw [hrl]; exact hcl) (by rw [hrl]; exact hlt) (by rw [HSG.out]; exact HKV.out.mono (fun _ _ _ h => own_set (own_set h hcr6 (by decide)) (hcr6.set _ _) (by decide)) (fun _ _ _ h => own_set (own_set h hcr6 (by decide)) (hcr6.set _ _) (by decide)))
    rw [HSG.out] at h
    simp only [HZ.out] at h
    exact hide h
  ·have hjb : j = bks.length := by omega
   have r0 := blk_cell hbx 0 _ rfl
   have q0 := blk_cell hrs 0 _ rfl
   have q1 := blk_cell hrs 1 _ rfl
   have z0 := blk_froz hrs 0
   have z1 := blk_froz hrs 1
   have HREP : Hid (RepBlks wr 0 (.slice (some ⟨G, 0, none⟩) bks.length bks.length) (Code.sweep1 bks)) := by
    have h := HBT.out
    rw [hjb, <- hrl] at h
    have h2 := h.rep hcr (by rw [hrl]; exact hcl) (by rw [hrl]; unfold maxLen; omega)
    rw [hrl] at h2
    exact hide h2
   subst hjb
   generalize hgt : goneTo bks bks.length = gt at *
   have HGT := hide hgt
   clear hgt
   go_wp2
   have hr3 := set_block (o := 1) (v := .slice (some ⟨G, 0, none⟩) bks.length bks.length) (set_block (o := 0) (v := .int .i64 (args : Nat)) hrs)
   refine bodyPost_ret (v := .tuple #[.agg #[.int .i64 (args : Nat), .slice (some ⟨G, 0, none⟩) bks.length bks.length], .int .i64 (gt : Nat)]) ?_ rfl ?_
   ·have d0 := blk_cell hr3 0 (.int .i64 (args : Nat)) rfl
    have d1 := blk_cell hr3 1 (.slice (some ⟨G, 0, none⟩) bks.length bks.length) rfl
    simp [results, Tryz.results176, go_sem, d0, d1]
   ·refine ⟨_, _, by rw [HGT.out], ?_, below_set (below_set hbw (by omega) _ _) (by omega) _ _⟩
    exact ((HREP.out.set hrs (by decide) (by decide) (by decide)).set (set_block hrs) (by decide) (by decide) (by decide))
structure SwOk (bks : List Code.Blk) : Prop where
 few : bks.length <= 8
 short : ∀ b ∈ bks, b.values.length <= 100000
 nums : ∀ b ∈ bks, ∀ v ∈ b.values, v.num < 60
 use : UseOk bks
theorem SwOk.sweep1 {bks : List Code.Blk} (h : SwOk bks) : SwOk (Code.sweep1 bks) := by
 have hm : ∀ b ∈ Code.sweep1 bks, ∃ b0 ∈ bks, b.last = b0.last /\ (∀ v ∈ b.values, v ∈ b0.values) /\ b.values.length <= b0.values.length := by
  intro b hb
  obtain ⟨b0, h0, rfl⟩ := List.mem_map.1 hb
  exact ⟨b0, h0, rfl, fun v hv => (List.mem_filter.1 hv).1, List.length_filter_le _ _⟩
 refine ⟨by simpa [Code.sweep1] using h.few, fun b hb => ?_, fun b hb v hv => ?_, fun b hb v hv => ?_, fun b hb x hx => ?_⟩
 ·obtain ⟨b0, h0, _, _, h3⟩ := hm b hb
  exact Nat.le_trans h3 (h.short b0 h0)
 ·obtain ⟨b0, h0, _, h2, _⟩ := hm b hb
  exact h.nums b0 h0 v (h2 v hv)
 ·obtain ⟨b0, h0, _, h2, _⟩ := hm b hb
  exact h.use.val b0 h0 v (h2 v hv)
 ·obtain ⟨b0, h0, h1, _, _⟩ := hm b hb
  rw [h1] at hx
  exact h.use.last b0 h0 x hx
theorem gone_count (u : List Code.Blk) : ∀ l : List Code.Blk, (l.map fun b => b.values.length - (b.values.filter (Code.keepsV u)).length).sum + Code.countB (l.map fun b => (⟨b.values.filter (Code.keepsV u), b.last⟩ : Code.Blk)) = Code.countB l
 | [] => rfl
 | b :: l => by
  have ih := gone_count u l
  have h := List.length_filter_le (Code.keepsV u) b.values
  simp only [Code.countB, List.map_cons, List.sum_cons] at *
  omega
theorem goneTo_all (bks : List Code.Blk) : goneTo bks bks.length + Code.countB (Code.sweep1 bks) = Code.countB bks := by
 have := gone_count bks bks
 unfold goneTo
 rw [List.take_length]
 exact this
theorem sweepF_more : ∀ (n : Nat) (bks : List Code.Blk), Code.countB bks < n -> Code.sweepF n bks = Code.sweep bks := by
 have key : ∀ (n m : Nat) (bks : List Code.Blk), Code.countB bks < n -> Code.countB bks < m -> Code.sweepF n bks = Code.sweepF m bks := by
  intro n
  induction n with
  | zero => intro m bks h; omega
  | succ n ih =>
   intro m bks h1 h2
   cases m with
   | zero => omega
   | succ m =>
    rw [Code.sweepF, Code.sweepF]
    split
    ·rfl
    ·rename_i hne
     have := goneTo_all bks
     exact ih m _ (by omega) (by omega)
 intro n bks h
 exact key n _ bks h (Nat.lt_succ_self _)
theorem sweep_done {bks : List Code.Blk} (h : goneTo bks bks.length = 0) : Code.sweep bks = Code.sweep1 bks := by
 have := goneTo_all bks
 unfold Code.sweep
 rw [Code.sweepF, if_pos (by omega)]
theorem sweep_next {bks : List Code.Blk} (h : goneTo bks bks.length ≠ 0) : Code.sweep bks = Code.sweep (Code.sweep1 bks) := by
 have := goneTo_all bks
 rw [show Code.sweep bks = Code.sweepF (Code.countB bks + 1) bks from rfl, Code.sweepF, if_neg (by omega)]
 exact sweepF_more _ _ (by omega)
def lenV : Value -> Nat
 | .slice _ n _ => n
 | _ => 0
def leftB (w : World) (b : Nat) : Nat := match w.cell? ⟨b, 1, none⟩ with
 | some (.slice (some a) n _) => ((List.range n).map fun k => lenV ((w.cell? ⟨a.block, k * 2, none⟩).getD undef)).sum
 | _ => 0
theorem leftB_is {w : World} {b : Nat} {p : Option Addr} {c : Nat} {bks : List Code.Blk} (hc : w.cell? ⟨b, 1, none⟩ = some (.slice p bks.length c)) (hr : RepBlks w 0 (.slice p bks.length c) bks) : leftB w b = Code.countB bks := by
 obtain ⟨p', c', hpe, hblk⟩ := hr.open
 simp only [Value.slice.injEq] at hpe
 obtain ⟨rfl, _, rfl⟩ := hpe
 unfold leftB
 rw [hc]
 cases p with
 | none =>
  cases bks with
  | nil => rfl
  | cons x l =>
   obtain ⟨g, vs, h, _⟩ := hblk 0 (by simp)
   cases h
 | some a =>
  unfold Code.countB
  show ((List.range bks.length).map fun k => lenV ((w.cell? ⟨a.block, k * 2, none⟩).getD undef)).sum = _
  congr 1
  apply List.ext_getElem
  ·simp
  ·intro k h1 h2
   simp only [List.length_map, List.length_range] at h1
   obtain ⟨g, vs, h, hg, c0, _, hv⟩ := hblk k h1
   simp only [Option.some.injEq] at h
   subst h
   obtain ⟨p2, c2, rfl, _⟩ := hv.open
   simp [c0, lenV]
theorem swept_any (args : Nat) (bks : List Code.Blk) (p : Option Addr) (c : Nat) (w : World) (hf : RepBlks w 0 (.slice p bks.length c) bks) (hok : SwOk bks) :
  Calls Tryz.prog 130 #[.agg #[.int .i64 (args : Nat), .slice p bks.length c]] w fun e w' => ∃ p' c', e = .returned (.agg #[.int .i64 (args : Nat), .slice p' (Code.sweep bks).length c']) /\ RepBlks w' 0 (.slice p' (Code.sweep bks).length c') (Code.sweep bks) /\ Below w.heap.size w w' := by
 have HOK := hide hok
 have HF := hide hf
 clear hok hf
 go_enter Tryz.func130, Tryz.ntmps130
 go_wp2_with fail
 generalize hw0 : (w.alloc _).alloc _ = w0
 have hb0 : Below w.heap.size w w0 := by rw [<- hw0]; exact below_al (below_al (Below.refl _ _) _) _
 have hx0 : w0.heap[w.heap.size]? = some (.cells #[.int .i64 (args : Nat), .slice p bks.length c] 78) := by rw [<- hw0]; exact stay_alloc (heap_alloc_new w _)
 have hx1 : w0.heap[w.heap.size + 1]? = some (.cells #[.int .i64 0, .slice none 0 0] 78) := by
  have h := heap_alloc_new (w.alloc (.cells #[.int .i64 (args : Nat), .slice p bks.length c] 78)) (.cells #[.int .i64 0, .slice none 0 0] 78)
  rw [alloc_size] at h
  rw [<- hw0]; exact h
 clear hw0
 go_loopw [3] (fun _ wr => ∃ (B : List Code.Blk) (q : Option Addr) (d : Nat), wr.heap[w.heap.size]? = some (.cells #[.int .i64 (args : Nat), .slice q B.length d] 78) /\ wr.heap[w.heap.size + 1]? = some (.cells #[.int .i64 0, .slice none 0 0] 78) /\ Hid (RepBlks wr 0 (.slice q B.length d) B) /\ Hid (SwOk B) /\ Hid (Code.sweep bks = Code.sweep B) /\ Below w.heap.size w wr) (fun _ wr => leftB wr w.heap.size)
 case atStart => exact ⟨bks, p, c, hx0, hx1, hide (HF.out.below hb0), HOK, hide rfl, hb0⟩
 case round =>
  obtain ⟨B, q, d, hbx, hrs, HR, HK, HE, hbw⟩ := hrel
  clear hx0 hx1 hb0
  have r0 := blk_cell hbx 0 _ rfl
  have r1 := blk_cell hbx 1 _ rfl
  have HM : Hid (leftB wr w.heap.size = Code.countB B) := hide (leftB_is r1 HR.out)
  have hz := hbw.size
  have hl0 := lt_of_block hbx
  have hl1 := lt_of_block hrs
  have HSO := hide (sweptOnce_any args B q d wr HR.out HK.out.few HK.out.short HK.out.nums HK.out.use)
  have HGA := hide (goneTo_all B)
  have hsl : (Code.sweep1 B).length = B.length := by simp [Code.sweep1]
  by_cases hg : goneTo B B.length = 0
  ·have HD : Hid (Code.sweep bks = Code.sweep1 B) := hide (HE.out.trans (sweep_done hg))
   rw [hg] at HSO
   clear hg
   go_wp2_with fail
   refine (HSO.out).mono ?_
   rintro e w2 ⟨p2, c2, rfl, hr2, hb2⟩
   have HR2 := hide hr2
   have hx2 := (hb2.block _ hl1).trans hrs
   have q0 := blk_cell hx2 0 _ rfl
   have q1 := blk_cell hx2 1 _ rfl
   have z0 := blk_froz hx2 0
   have z1 := blk_froz hx2 1
   have hl2 := lt_of_block hx2
   have hbw2 : Below w.heap.size w w2 := hbw.trans (hb2.mono hz)
   clear hr2
   go_wp2
   have hr3 := stay_alloc (p := .cells #[.int .i64 (args : Nat), .slice p2 B.length c2] 78) (set_block (o := 1) (v := .slice p2 B.length c2) (set_block (o := 0) (v := .int .i64 (args : Nat)) hx2))
   refine bodyPost_ret (v := .agg #[.int .i64 (args : Nat), .slice p2 B.length c2]) ?_ rfl ?_
   ·have d0 := blk_cell hr3 0 (.int .i64 (args : Nat)) rfl
    have d1 := blk_cell hr3 1 (.slice p2 B.length c2) rfl
    simp [results, Tryz.results130, go_sem, d0, d1]
   ·rw [HD.out, hsl]
    refine ⟨_, _, rfl, ?_, below_al (below_set (below_set hbw2 (by omega) _ _) (by omega) _ _) _⟩
    exact ((HR2.out.set hx2 (by decide) (by decide) (by decide)).set (set_block hx2) (by decide) (by decide) (by decide)).below (below_al (Below.refl _ _) _)
  ·have hg1 : ¬ ((goneTo B B.length : Nat) : Int) = 0 := by omega
   have hg2 : (((goneTo B B.length : Nat) : Int) == 0) = false := beq_eq_false_iff_ne.2 hg1
   have HD : Hid (Code.sweep bks = Code.sweep (Code.sweep1 B)) := hide (HE.out.trans (sweep_next hg))
   generalize goneTo B B.length = gt at *
   go_wp2_with fail
   refine (HSO.out).mono ?_
   rintro e w2 ⟨p2, c2, rfl, hr2, hb2⟩
   have HR2 := hide hr2
   have hx2 := (hb2.block _ hl0).trans hbx
   have q0 := blk_cell hx2 0 _ rfl
   have q1 := blk_cell hx2 1 _ rfl
   have z0 := blk_froz hx2 0
   have z1 := blk_froz hx2 1
   have hl2 := lt_of_block hx2
   have hbw2 : Below w.heap.size w w2 := hbw.trans (hb2.mono hz)
   clear hr2
   go_wp2
   have hr3 := stay_alloc (p := .cells #[.int .i64 (args : Nat), .slice p2 B.length c2] 78) (set_block (o := 1) (v := .slice p2 B.length c2) (set_block (o := 0) (v := .int .i64 (args : Nat)) hx2))
   have hq3 := stay_alloc (p := .cells #[.int .i64 (args : Nat), .slice p2 B.length c2] 78) (stay_set (a := ⟨w.heap.size, 1, none⟩) (v := .slice p2 B.length c2) (stay_set (a := ⟨w.heap.size, 0, none⟩) (v := .int .i64 (args : Nat)) ((hb2.block _ hl1).trans hrs) (show w.heap.size + 1 ≠ w.heap.size by omega)) (show w.heap.size + 1 ≠ w.heap.size by omega))
   have hR3 := ((HR2.out.set hx2 (o := 0) (u := .int .i64 (args : Nat)) (by decide) (by decide) (by decide)).set (o := 1) (u := .slice p2 B.length c2) (set_block hx2) (by decide) (by decide) (by decide)).below (below_al (Below.refl _ _) (.cells #[.int .i64 (args : Nat), .slice p2 B.length c2] 78))
   have hB3 : Below w.heap.size w _ := below_al (below_set (below_set hbw2 (Nat.le_refl _) 0 (.int .i64 (args : Nat))) (Nat.le_refl _) 1 (.slice p2 B.length c2)) (.cells #[.int .i64 (args : Nat), .slice p2 B.length c2] 78)
   generalize ((w2.setCell ⟨w.heap.size, 0, none⟩ (.int .i64 (args : Nat))).setCell ⟨w.heap.size, 1, none⟩ (.slice p2 B.length c2)).alloc (.cells #[.int .i64 (args : Nat), .slice p2 B.length c2] 78) = w3 at *
   rw [<- hsl] at hr3 hR3
   refine ⟨⟨Code.sweep1 B, p2, c2, hr3, hq3, hide hR3, hide HK.out.sweep1, HD, hB3⟩, ?_⟩
   have d1 := blk_cell hr3 1 (.slice p2 (Code.sweep1 B).length c2) rfl
   rw [leftB_is d1 hR3]
   have := HGA.out
   rw [HM.out]
   omega
end Go.Proofs.YtedkjanogjglkaaGreatDoor
