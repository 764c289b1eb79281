/-
  Parts of the proof: RPut, RUsed, RDel.
-/
import Derived.Test.YtedkjanogjglkaaGreatDoorP15
set_option maxRecDepth 100000
set_option maxHeartbeats 4000000
namespace Go.Proofs.YtedkjanogjglkaaGreatDoor
open Go.RowKit
theorem at_any (args i k : Nat) (bks : List Code.Blk) (p : Option Addr) (c : Nat) (w : World) (hf : RepBlks w 0 (.slice p bks.length c) bks) (hi : i < bks.length) (hk : k < bks[i].values.length) :
  Calls Tryz.prog 126 #[.agg #[.int .i64 (args : Nat), .slice p bks.length c], .agg #[.int .i64 (i : Nat), .int .i64 (k : Nat)]] w fun e w' => ∃ th, e = .returned (.agg #[.int .i64 (bks[i].values[k].num : Nat), th]) /\ ThingV w 0 bks[i].values[k].thing th /\ Below w.heap.size w w' := by
 obtain ⟨p', c', hpe, hblk⟩ := hf.open
 simp only [Value.slice.injEq] at hpe
 obtain ⟨rfl, _, rfl⟩ := hpe
 obtain ⟨g, vs, rfl, hg, c0, c1, hvs⟩ := hblk i hi
 obtain ⟨pv, cv, rfl, hval⟩ := hvs.open
 obtain ⟨g2, th, rfl, hg2, d0, d1, hth⟩ := hval k hk
 have HTH := hide hth
 obtain ⟨T, tv, rfl⟩ := hth.shape
 have hil : (i : Int) < (bks.length : Int) := by omega
 have hkl : (k : Int) < (bks[i].values.length : Int) := by omega
 clear hblk hval hvs hf hth c1
 generalize bks[i].values[k].num = x at *
 generalize bks[i].values[k].thing = y at *
 generalize bks[i].values.length = vl at *
 go_enter Tryz.func126, Tryz.ntmps126
 go_wp2_with fail
 generalize hw0 : ((w.alloc _).alloc _).alloc _ = w0
 have hb0 : Below w.heap.size w w0 := by rw [<- hw0]; exact below_al (below_al (below_al (Below.refl _ _) _) _) _
 have hx0 : w0.heap[w.heap.size]? = some (.cells #[.int .i64 (args : Nat), .slice (some ⟨g, 0, none⟩) bks.length c] 78) := by rw [<- hw0]; exact stay_alloc (stay_alloc (heap_alloc_new w _))
 have hx1 : w0.heap[w.heap.size + 1]? = some (.cells #[.int .i64 (i : Nat), .int .i64 (k : Nat)] 149) := by
  have h := heap_alloc_new (w.alloc (.cells #[.int .i64 (args : Nat), .slice (some ⟨g, 0, none⟩) bks.length c] 78)) (.cells #[.int .i64 (i : Nat), .int .i64 (k : Nat)] 149)
  rw [alloc_size] at h
  rw [<- hw0]; exact stay_alloc h
 have hx2 : w0.heap[w.heap.size + 1 + 1]? = some (.cells #[.int .i64 0, .nilIface] 169) := by
  have h := heap_alloc_new ((w.alloc (.cells #[.int .i64 (args : Nat), .slice (some ⟨g, 0, none⟩) bks.length c] 78)).alloc (.cells #[.int .i64 (i : Nat), .int .i64 (k : Nat)] 149)) (.cells #[.int .i64 0, .nilIface] 169)
  rw [alloc_size, alloc_size] at h
  rw [<- hw0]; exact h
 clear hw0
 have e0 : ∀ w', w0.grownBy w' (some (w.heap.size + 1 + 1)) -> w'.cell? ⟨w.heap.size, 1, none⟩ = some (.slice (some ⟨g, 0, none⟩) bks.length c) := fun w' h => blk_cell (kept_block hx0 h (by omega)) 1 _ rfl
 have e1 : ∀ w', w0.grownBy w' (some (w.heap.size + 1 + 1)) -> w'.cell? ⟨w.heap.size + 1, 0, none⟩ = some (.int .i64 (i : Nat)) := fun w' h => blk_cell (kept_block hx1 h (by omega)) 0 _ rfl
 have e2 : ∀ w', w0.grownBy w' (some (w.heap.size + 1 + 1)) -> w'.cell? ⟨w.heap.size + 1, 1, none⟩ = some (.int .i64 (k : Nat)) := fun w' h => blk_cell (kept_block hx1 h (by omega)) 1 _ rfl
 have hz := hb0.size
 have keep : ∀ w', w0.grownBy w' (some (w.heap.size + 1 + 1)) -> ∀ b < w.heap.size, w'.heap[b]? = w.heap[b]? := fun w' h b hb => (h.block b (by omega) (by simp; omega)).trans (hb0.block b hb)
 have e3 : ∀ w', w0.grownBy w' (some (w.heap.size + 1 + 1)) -> w'.cell? ⟨g, i * 2, none⟩ = some (.slice (some ⟨g2, 0, none⟩) vl cv) := fun w' h => by simpa [World.cell?, keep w' h g hg] using c0
 have e4 : ∀ w', w0.grownBy w' (some (w.heap.size + 1 + 1)) -> w'.cell? ⟨g2, k * 2, none⟩ = some (.int .i64 (x : Nat)) := fun w' h => by simpa [World.cell?, keep w' h g2 hg2] using d0
 have e5 : ∀ w', w0.grownBy w' (some (w.heap.size + 1 + 1)) -> w'.cell? ⟨g2, k * 2 + 1, none⟩ = some (.iface T tv) := fun w' h => by simpa [World.cell?, keep w' h g2 hg2] using d1
 have s0 := blk_cell hx2 0 _ rfl
 have s1 := blk_cell hx2 1 _ rfl
 have f0 := blk_froz hx2 0
 have f1 := blk_froz hx2 1
 clear keep c0 d0 d1
 go_region_held3 (fun w' => w0.grownBy w' (some (w.heap.size + 1 + 1))) (first | assumption | (repeat' (first | assumption | exact grown_refl _ _ | apply grown_drew | exact grown_set _ _ _ _ | (refine grown_trans ?_ (grown_set _ _ _ _))))) (fail)
 go_wp2
 have hr3 := set_block (o := 1) (v := .iface T tv) (set_block (o := 0) (v := .int .i64 (x : Nat)) hx2)
 refine bodyPost_ret (v := .agg #[.int .i64 (x : Nat), .iface T tv]) ?_ rfl ?_
 ·have q0 := blk_cell hr3 0 (.int .i64 (x : Nat)) rfl
  have q1 := blk_cell hr3 1 (.iface T tv) rfl
  simp [results, Tryz.results126, go_sem, q0, q1]
 ·exact ⟨_, rfl, HTH.out, (below_set (below_set hb0 (by omega) _ _) (by omega) _ _).drew⟩
def ValsCs (w : World) (cs : List Value) (l : List Code.Val) : Prop := cs.length = l.length * 2 /\ ∀ i (h : i < l.length), ∃ th, cs[i * 2]? = some (.int .i64 (l[i].num : Nat)) /\ cs[i * 2 + 1]? = some th /\ ThingV w 0 l[i].thing th
theorem RepVals.cs {w : World} {base : Nat} {v : Value} {l : List Code.Val} (h : RepVals w base v l) : ∃ cs, w.ownsRow base 169 2 v l.length cs /\ ValsCs w cs l := by
 obtain ⟨cs, h1, h2⟩ := h
 refine ⟨cs, h1, h1.1, fun i hi => ?_⟩
 obtain ⟨th, a, b, c⟩ := h2 i hi
 exact ⟨th, a, b, c.mono (fun _ _ _ h => own_base h (Nat.zero_le _))⟩
theorem ValsCs.rep {w : World} {base : Nat} {v : Value} {l : List Code.Val} {cs : List Value} (h : ValsCs w cs l) (ho : w.ownsRow base 169 2 v l.length cs) : RepVals w 0 v l := ⟨cs, own_base ho (Nat.zero_le _), h.2⟩
theorem ValsCs.below {w w' : World} {l : List Code.Val} {cs : List Value} (h : ValsCs w cs l) (hb : Below w.heap.size w w') : ValsCs w' cs l := ⟨h.1, fun i hi => by
 obtain ⟨th, a, b, c⟩ := h.2 i hi
 exact ⟨th, a, b, c.mono (fun _ _ _ h => own_below h hb)⟩⟩
theorem ValsCs.mono {w w' : World} {l : List Code.Val} {cs : List Value} (h : ValsCs w cs l) (hk : ∀ r n xs, w.ownsRow 0 3 1 r n xs -> w'.ownsRow 0 3 1 r n xs) : ValsCs w' cs l := ⟨h.1, fun i hi => by
 obtain ⟨th, a, b, c⟩ := h.2 i hi
 exact ⟨th, a, b, c.mono hk⟩⟩
theorem ValsCs.ones {w : World} {l : List Code.Val} {cs : List Value} (h : ValsCs w cs l) : ∀ u ∈ cs, u.oneCell' = true := RepVals.ones h.1 h.2
theorem ValsCs.nil (w : World) : ValsCs w [] [] := ⟨rfl, fun i h => by simp at h⟩
theorem ValsCs.app {w : World} {a b : List Code.Val} {ca cb : List Value} (ha : ValsCs w ca a) (hb : ValsCs w cb b) : ValsCs w (ca ++ cb) (a ++ b) := by
 refine ⟨by simp [ha.1, hb.1, Nat.add_mul], fun i hi => ?_⟩
 have hal := ha.1
 by_cases h : i < a.length
 ·obtain ⟨th, x, y, z⟩ := ha.2 i h
  exact ⟨th, by rw [List.getElem?_append_left (by omega), List.getElem_append_left h]; exact x, by rw [List.getElem?_append_left (by omega)]; exact y, by rw [List.getElem_append_left h]; exact z⟩
 ·simp only [List.length_append] at hi
  obtain ⟨th, x, y, z⟩ := hb.2 (i - a.length) (by omega)
  refine ⟨th, ?_, ?_, ?_⟩
  ·rw [List.getElem?_append_right (by omega), List.getElem_append_right (by omega), show i * 2 - ca.length = (i - a.length) * 2 by omega]; exact x
  ·rw [List.getElem?_append_right (by omega), show i * 2 + 1 - ca.length = (i - a.length) * 2 + 1 by omega]; exact y
  ·rw [List.getElem_append_right (by omega)]; exact z
theorem ValsCs.take {w : World} {l : List Code.Val} {cs : List Value} (h : ValsCs w cs l) (k : Nat) : ValsCs w (cs.take (k * 2)) (l.take k) := by
 have hl := h.1
 refine ⟨by simp [hl, <- Nat.mul_min_mul_right], fun i hi => ?_⟩
 have hi' : i < k /\ i < l.length := by simp at hi; omega
 obtain ⟨th, x, y, z⟩ := h.2 i hi'.2
 exact ⟨th, by rw [List.getElem?_take_of_lt (by omega), List.getElem_take]; exact x, by rw [List.getElem?_take_of_lt (by omega)]; exact y, by rw [List.getElem_take]; exact z⟩
theorem ValsCs.drop {w : World} {l : List Code.Val} {cs : List Value} (h : ValsCs w cs l) (k : Nat) : ValsCs w (cs.drop (k * 2)) (l.drop k) := by
 have hl := h.1
 refine ⟨by simp [hl, Nat.sub_mul], fun i hi => ?_⟩
 have hi' : k + i < l.length := by simp at hi; omega
 obtain ⟨th, x, y, z⟩ := h.2 (k + i) hi'
 exact ⟨th, by rw [List.getElem?_drop, List.getElem_drop, show k * 2 + i * 2 = (k + i) * 2 by omega]; exact x, by rw [List.getElem?_drop, show k * 2 + (i * 2 + 1) = (k + i) * 2 + 1 by omega]; exact y, by rw [List.getElem_drop]; exact z⟩
theorem unalB {a w : World} {o : Obj} (h : Below (a.alloc o).heap.size (a.alloc o) w) : Below a.heap.size a w :=
 ⟨h.os, h.tape, h.output, Nat.le_trans (by rw [alloc_size]; exact Nat.le_succ a.heap.size) h.size, fun k hk => (h.block k (by rw [alloc_size]; exact Nat.lt_succ_of_lt hk)).trans (Below.heap_alloc a o k hk)⟩
theorem own_cellAt {w : World} {base e size g n cap : Nat} {xs : List Value} (h : w.ownsRow base e size (.slice (some ⟨g, 0, none⟩) n cap) n xs) (j : Nat) (hj : j < n * size) (hx : j < xs.length) : w.cell? ⟨g, j, none⟩ = some xs[j] := by
 rw [h.cellAt j hj, List.getElem?_eq_getElem hx]
theorem putB_length (i k : Nat) (l : List Code.Val) (bks : List Code.Blk) : (Code.putB i k l bks).length = bks.length := by simp [Code.putB]
theorem putB_get (i k : Nat) (l : List Code.Val) (bks : List Code.Blk) (j : Nat) (h : j < bks.length) : (Code.putB i k l bks)[j]'(by rw [putB_length]; exact h) = if i = j then ⟨bks[j].values.take k ++ l ++ bks[j].values.drop (k + 1), bks[j].last⟩ else bks[j] := by
 simp only [Code.putB, List.getElem_modify]
theorem put_rep {w w3 : World} {base g cap i k : Nat} {cs : List Value} {bks : List Code.Blk} {l : List Code.Val} {rv : Value} (hi : i < bks.length) (hcs : ∀ i (h : i < bks.length), ∃ vs, cs[i * 2]? = some vs /\ cs[i * 2 + 1]? = some (lastV bks[i].last) /\ RepVals w 0 vs bks[i].values) (hb : Below w.heap.size w w3)
  (hown : w3.ownsRow base 165 2 (.slice (some ⟨g, 0, none⟩) bks.length cap) bks.length cs) (hr : RepVals w3 0 rv (bks[i].values.take k ++ l ++ bks[i].values.drop (k + 1))) : RepBlks (w3.setCell ⟨g, i * 2, none⟩ rv) 0 (.slice (some ⟨g, 0, none⟩) bks.length cap) (Code.putB i k l bks) := by
 obtain ⟨C, z, hgb⟩ : ∃ C z, w3.heap[g]? = some (.cells C 165 z) := by
  rcases hown.2 with ⟨h, _⟩ | ⟨g', cap', cur, hv, _, hg, _⟩
  ·cases h
  ·simp only [Value.slice.injEq, Option.some.injEq, Addr.mk.injEq] at hv
   obtain ⟨⟨rfl, _⟩, _, rfl⟩ := hv
   exact ⟨_, _, hg⟩
 have hkeep : ∀ {e size n : Nat} {v : Value} {xs : List Value}, e ≠ 165 -> w3.ownsRow 0 e size v n xs -> (w3.setCell ⟨g, i * 2, none⟩ rv).ownsRow 0 e size v n xs := fun he h => own_set h hgb (fun h' => he h'.symm)
 have hl := hown.1
 refine ⟨cs.set (i * 2) rv, ?_, fun j hj => ?_⟩
 ·rw [putB_length]
  exact own_base (hown.stored (i * 2) rv).1 (Nat.zero_le _)
 ·rw [putB_length] at hj
  obtain ⟨vs, h1, h2, h3⟩ := hcs j hj
  rw [putB_get i k l bks j hj]
  by_cases e : i = j
  ·subst e
   rw [if_pos rfl]
   exact ⟨rv, List.getElem?_set_self (by omega), by rw [List.getElem?_set_ne (by omega)]; exact h2, hr.mono (fun _ _ _ h => hkeep (by decide) h) (fun _ _ _ h => hkeep (by decide) h)⟩
  ·rw [if_neg e]
   exact ⟨vs, by rw [List.getElem?_set_ne (by omega)]; exact h1, by rw [List.getElem?_set_ne (by omega)]; exact h2, (h3.below hb).mono (fun _ _ _ h => hkeep (by decide) h) (fun _ _ _ h => hkeep (by decide) h)⟩
theorem put_any (args i k : Nat) (bks : List Code.Blk) (l : List Code.Val) (p : Option Addr) (c : Nat) (vs : Value) (w : World) (hf : RepBlks w 0 (.slice p bks.length c) bks) (hn : bks.length <= 8) (hi : i < bks.length) (hl : bks[i].values.length <= 100000) (hk : k < bks[i].values.length) (hv : RepVals w 0 vs l) (hll : l.length <= 100000) :
  Calls Tryz.prog 127 #[.agg #[.int .i64 (args : Nat), .slice p bks.length c], .agg #[.int .i64 (i : Nat), .int .i64 (k : Nat)], vs] w fun e w' => ∃ p' c', e = .returned (.agg #[.int .i64 (args : Nat), .slice p' bks.length c']) /\ RepBlks w' 0 (.slice p' bks.length c') (Code.putB i k l bks) /\ Below w.heap.size w w' := by
 obtain ⟨cs, hown, hcs⟩ := hf
 have HCL : Hid (∀ w1, Below w.heap.size w w1 -> Calls Tryz.prog 170 #[.slice p bks.length c] w1 fun e w' => ∃ r, e = .returned r /\ w'.ownsRow w1.heap.size 165 2 r bks.length cs /\ Below w1.heap.size w1 w') := hide fun w1 h1 => cloneB_any _ _ 0 cs w1 (own_below hown h1) (by omega) (RepBlks.ones hown.1 hcs)
 obtain ⟨lcs, hlown, hlcs⟩ := hv.cs
 have HV := hide hlown
 have HVC := hide hlcs
 obtain ⟨lp, lc, rfl⟩ := own_slice hlown
 obtain ⟨ov, o0, o1, ovr⟩ := hcs i hi
 obtain ⟨ocs, oown, oocs⟩ := ovr.cs
 have HOO := hide oown
 have HOC := hide oocs
 have HCS := hide hcs
 have hcsl := hown.1
 clear hv hlown hlcs ovr hcs hown oocs
 go_enter Tryz.func127, Tryz.ntmps127
 go_wp2_with fail
 generalize hw0 : ((w.alloc _).alloc _).alloc _ = w0
 have hb0 : Below w.heap.size w w0 := by rw [<- hw0]; exact below_al (below_al (below_al (Below.refl _ _) _) _) _
 have hx0 : w0.heap[w.heap.size]? = some (.cells #[.int .i64 (args : Nat), .slice p bks.length c] 78) := by rw [<- hw0]; exact stay_alloc (stay_alloc (heap_alloc_new w _))
 have hx1 : w0.heap[w.heap.size + 1]? = some (.cells #[.int .i64 (i : Nat), .int .i64 (k : Nat)] 149) := by
  have h := heap_alloc_new (w.alloc (.cells #[.int .i64 (args : Nat), .slice p bks.length c] 78)) (.cells #[.int .i64 (i : Nat), .int .i64 (k : Nat)] 149)
  rw [alloc_size] at h
  rw [<- hw0]; exact stay_alloc h
 have hx2 : w0.heap[w.heap.size + 1 + 1]? = some (.cells #[.int .i64 0, .slice none 0 0] 78) := by
  have h := heap_alloc_new ((w.alloc (.cells #[.int .i64 (args : Nat), .slice p bks.length c] 78)).alloc (.cells #[.int .i64 (i : Nat), .int .i64 (k : Nat)] 149)) (.cells #[.int .i64 0, .slice none 0 0] 78)
  rw [alloc_size, alloc_size] at h
  rw [<- hw0]; exact h
 clear hw0
 have hz := hb0.size
 have hx0l := lt_of_block hx0
 have hx1l := lt_of_block hx1
 have hx2l := lt_of_block hx2
 refine (HCL.out w0 hb0).mono ?_
 rintro e w1 ⟨r, rfl, hown1, hb1⟩
 obtain ⟨g, cap, hge, hBg, hgl, hcell⟩ := row_open hown1 (by omega)
 subst hge
 have b0 := hcell _ _ o0
 obtain ⟨op, oc, rfl⟩ := own_slice oown
 have hx11 := (hb1.block _ hx1l).trans hx1
 have p0 := blk_cell hx11 0 _ rfl
 have p1 := blk_cell hx11 1 _ rfl
 have hil : (i : Int) < (bks.length : Int) := by omega
 obtain ⟨go, oc', hoe, _, hgol, hocell⟩ := row_open HOO.out (by omega)
 simp only [Value.slice.injEq] at hoe
 obtain ⟨rfl, _, rfl⟩ := hoe
 have hoc : bks[i].values.length <= oc := own_cap oown
 have hb01 : Below w.heap.size w w1 := hb0.trans (hb1.mono hz)
 generalize hvl : bks[i].values.length = vl at *
 have HOCL := hide HOC.out.1
 go_wp2_with fail
 clear oown hocell
 have hkoc : (k : Int) <= (oc : Int) := by omega
 have hkvl : (k : Int) + 1 <= (vl : Int) := by omega
 have hkvl2 : (k : Int) < (vl : Int) := by omega
 have hk0 : (0 : Int) <= (k : Int) + 1 := by omega
 have hkvl3 : k + 1 <= vl := by omega
 have hwr : IntKind.i64.wrap ((k : Int) + 1) = (k : Int) + 1 := by rw [IntKind.wrap_i64]; omega
 have hk00 : (0 : Int) <= (k : Int) := by omega
 have hk11 : ((k : Int) + 1).toNat = k + 1 := by omega
 have q0 : ∀ w', w1.grownBy w' (some g) -> w'.cell? ⟨w.heap.size + 1, 0, none⟩ = some (.int .i64 (i : Nat)) := fun w' h => blk_cell (kept_block hx11 h (by omega)) 0 _ rfl
 have q1 : ∀ w', w1.grownBy w' (some g) -> w'.cell? ⟨w.heap.size + 1, 1, none⟩ = some (.int .i64 (k : Nat)) := fun w' h => blk_cell (kept_block hx11 h (by omega)) 1 _ rfl
 have hsl1 : SlV w (.slice (some ⟨go, 0, none⟩) k oc) k (ocs.take (k * 2)) := by
  rcases SlV.own HOO.out HOC.out.ones with ⟨h, _⟩ | ⟨ad, c', h1, h2, h3, h4, h5, h6⟩
  ·cases h
  ·simp only [Value.slice.injEq, Option.some.injEq] at h1
   obtain ⟨rfl, _, rfl⟩ := h1
   refine Or.inr ⟨_, _, rfl, by omega, by simp [h3]; omega, h4, fun j u hu => h5 j u ?_, fun u hu => h6 u (List.mem_of_mem_take hu)⟩
   have hj := (List.getElem?_eq_some_iff.1 hu).1
   rw [List.getElem?_take_of_lt (by simp at hj; omega)] at hu
   exact hu
 have hdrop : (ocs.drop ((k + 1) * 2)).length = (vl - (k + 1)) * 2 := by
  rw [List.length_drop, HOC.out.1, hvl]; omega
 by_cases hcase : oc = k + 1
 ·have hk1 : (k : Int) <= ((k + 1 : Nat) : Int) := by omega
  have hk2 : (k : Int) <= (k : Int) + 1 := by omega
  have hsl3 : SlV w (.slice (some ⟨go, 0, none⟩) (vl - (k + 1)) 0) (vl - (k + 1)) (ocs.drop ((k + 1) * 2)) := by
   have h0 : vl - (k + 1) = 0 := by omega
   rw [h0] at hdrop ⊢
   have hnil := List.eq_nil_of_length_eq_zero (by rw [hdrop])
   rw [hnil]
   exact Or.inr ⟨_, _, rfl, Nat.le_refl _, rfl, hgol, fun j u hu => by simp at hu, fun u hu => by simp at hu⟩
  have CC : Hid (∀ W h, Below w1.heap.size w1 W -> W.heap[h]? = some (.cells #[.slice (some ⟨go, 0, none⟩) k (k + 1), .slice lp l.length lc, .slice (some ⟨go, 0, none⟩) (vl - (k + 1)) 0] 161) -> Calls Tryz.prog 171 #[.slice (some ⟨h, 0, none⟩) 3 3] W fun e w' => ∃ r, e = .returned r /\ w'.ownsRow W.heap.size 169 2 r (k + l.length + (vl - (k + 1))) (ocs.take (k * 2) ++ lcs ++ ocs.drop ((k + 1) * 2)) /\ Below W.heap.size W w') := hide fun W h hW hh => by
   have hbW : Below w.heap.size w W := hb01.trans (hW.mono hb01.size)
   subst hcase
   exact concat_any h _ _ _ _ _ _ _ _ _ W hh (hsl1.below hbW) ((SlV.own HV.out HVC.out.ones).below hbW) (hsl3.below hbW) (by omega) (by omega) (by omega)
  clear hsl1 hsl3 hdrop
  go_region_held3 (fun w' => w1.grownBy w' (some g)) (first | assumption | (repeat' (first | assumption | exact grown_refl _ _ | apply grown_drew | exact grown_alloc _ _ _ | exact grown_set _ _ _ _ | (refine grown_trans ?_ (grown_set _ _ _ _))))) (first | (go_at_call 171; refine (CC.out _ _ ?_ ?_).mono ?_; (first | exact (below_al (Below.refl _ _) _).drew | exact below_al (Below.refl _ _).drew _); (exact heap_alloc_new w1 _); rintro e w3 ⟨r3, rfl, hown3, hb3⟩; have hb13 : Below w1.heap.size w1 w3 := (unalB (undrewB hb3)); have hg13 : w1.grownBy w3 (some g) := grown_below hb13; obtain ⟨p3, c3, rfl⟩ := own_slice hown3; have hown1' := own_below hown1 hb13; obtain ⟨u0, hu0⟩ : ∃ u, w3.cell? ⟨g, i * 2, none⟩ = some u := ⟨_, own_cellAt hown1' (i * 2) (by omega) (by omega)⟩; have hf0 := hown1'.frozenAt (i * 2)))
  all_goals
   have hb03 : Below w.heap.size w w3 := hb01.trans (hb13.mono hb01.size)
   have HR3 : Hid (RepVals w3 0 (.slice p3 (k + l.length + (vl - (k + 1))) c3) (bks[i].values.take k ++ l ++ bks[i].values.drop (k + 1))) := by
    have hv := ((HOC.out.take k).app HVC.out).app (HOC.out.drop (k + 1))
    refine hide ((hv.below hb03).rep ?_ (base := 0))
    have hlen : (bks[i].values.take k ++ l ++ bks[i].values.drop (k + 1)).length = k + l.length + (vl - (k + 1)) := by
     rw [List.length_append, List.length_append, List.length_take, List.length_drop, hvl]; omega
    rw [hlen]
    exact own_base hown3 (Nat.zero_le _)
   have HRP := hide (put_rep hi HCS.out hb03 hown1' HR3.out)
   have hx03 := stay_set (a := ⟨g, i * 2, none⟩) (v := .slice p3 (k + l.length + (vl - (k + 1))) c3) ((hb13.block _ (by omega)).trans ((hb1.block _ hx0l).trans hx0)) (show w.heap.size ≠ g by omega)
   have hx23 := stay_set (a := ⟨g, i * 2, none⟩) (v := .slice p3 (k + l.length + (vl - (k + 1))) c3) ((hb13.block _ (by omega)).trans ((hb1.block _ hx2l).trans hx2)) (show w.heap.size + 1 + 1 ≠ g by omega)
   have hb4 : Below w.heap.size w (w3.setCell ⟨g, i * 2, none⟩ (.slice p3 (k + l.length + (vl - (k + 1))) c3)) := below_set hb03 (by omega) _ _
   clear hu0 hf0 hown3 HR3 HCL
   generalize w3.setCell ⟨g, i * 2, none⟩ (.slice p3 (k + l.length + (vl - (k + 1))) c3) = w4 at *
   have y0 := blk_cell hx03 0 _ rfl
   have t0 := blk_cell hx23 0 _ rfl
   have t1 := blk_cell hx23 1 _ rfl
   have z0 := blk_froz hx23 0
   have z1 := blk_froz hx23 1
   go_wp2
   have hr3 := set_block (o := 1) (v := .slice (some ⟨g, 0, none⟩) bks.length cap) (set_block (o := 0) (v := .int .i64 (args : Nat)) hx23)
   refine bodyPost_ret (v := .agg #[.int .i64 (args : Nat), .slice (some ⟨g, 0, none⟩) bks.length cap]) ?_ rfl ?_
   ·have d0 := blk_cell hr3 0 (.int .i64 (args : Nat)) rfl
    have d1 := blk_cell hr3 1 (.slice (some ⟨g, 0, none⟩) bks.length cap) rfl
    simp [results, Tryz.results127, go_sem, d0, d1]
   ·refine ⟨_, _, rfl, ?_, below_set (below_set hb4 (by omega) _ _) (by omega) _ _⟩
    exact ((HRP.out.set hx23 (by decide) (by decide) (by decide)).set (set_block hx23) (by decide) (by decide) (by decide))
 ·have hsl3 : SlV w (.slice (some ⟨go, (k + 1) * 2, none⟩) (vl - (k + 1)) (oc - (k + 1))) (vl - (k + 1)) (ocs.drop ((k + 1) * 2)) := by
   rcases SlV.own HOO.out HOC.out.ones with ⟨h, _⟩ | ⟨ad, c', h1, h2, h3, h4, h5, h6⟩
   ·cases h
   ·simp only [Value.slice.injEq, Option.some.injEq] at h1
    obtain ⟨rfl, _, rfl⟩ := h1
    refine Or.inr ⟨_, _, rfl, by omega, hdrop, h4, fun j u hu => ?_, fun u hu => h6 u (List.mem_of_mem_drop hu)⟩
    rw [List.getElem?_drop] at hu
    have h7 := h5 _ u hu
    have h8 : ((⟨go, (k + 1) * 2, none⟩ : Addr).add j) = (⟨go, 0, none⟩ : Addr).add ((k + 1) * 2 + j) := by
     simp only [Addr.add]
     split <;> split <;> simp_all
    rw [h8]; exact h7
  have CC : Hid (∀ W h, Below w1.heap.size w1 W -> W.heap[h]? = some (.cells #[.slice (some ⟨go, 0, none⟩) k oc, .slice lp l.length lc, .slice (some ⟨go, (k + 1) * 2, none⟩) (vl - (k + 1)) (oc - (k + 1))] 161) -> Calls Tryz.prog 171 #[.slice (some ⟨h, 0, none⟩) 3 3] W fun e w' => ∃ r, e = .returned r /\ w'.ownsRow W.heap.size 169 2 r (k + l.length + (vl - (k + 1))) (ocs.take (k * 2) ++ lcs ++ ocs.drop ((k + 1) * 2)) /\ Below W.heap.size W w') := hide fun W h hW hh => by
   have hbW : Below w.heap.size w W := hb01.trans (hW.mono hb01.size)
   exact concat_any h _ _ _ _ _ _ _ _ _ W hh (hsl1.below hbW) ((SlV.own HV.out HVC.out.ones).below hbW) (hsl3.below hbW) (by omega) (by omega) (by omega)
  clear hsl1 hsl3 hdrop
  go_region_held3 (fun w' => w1.grownBy w' (some g)) (first | assumption | (repeat' (first | assumption | exact grown_refl _ _ | apply grown_drew | exact grown_alloc _ _ _ | exact grown_set _ _ _ _ | (refine grown_trans ?_ (grown_set _ _ _ _))))) (first | (go_at_call 171; refine (CC.out _ _ ?_ ?_).mono ?_; (first | exact (below_al (Below.refl _ _) _).drew | exact below_al (Below.refl _ _).drew _); (exact heap_alloc_new w1 _); rintro e w3 ⟨r3, rfl, hown3, hb3⟩; have hb13 : Below w1.heap.size w1 w3 := (unalB (undrewB hb3)); have hg13 : w1.grownBy w3 (some g) := grown_below hb13; obtain ⟨p3, c3, rfl⟩ := own_slice hown3; have hown1' := own_below hown1 hb13; obtain ⟨u0, hu0⟩ : ∃ u, w3.cell? ⟨g, i * 2, none⟩ = some u := ⟨_, own_cellAt hown1' (i * 2) (by omega) (by omega)⟩; have hf0 := hown1'.frozenAt (i * 2)))
  all_goals
   have hb03 : Below w.heap.size w w3 := hb01.trans (hb13.mono hb01.size)
   have HR3 : Hid (RepVals w3 0 (.slice p3 (k + l.length + (vl - (k + 1))) c3) (bks[i].values.take k ++ l ++ bks[i].values.drop (k + 1))) := by
    have hv := ((HOC.out.take k).app HVC.out).app (HOC.out.drop (k + 1))
    refine hide ((hv.below hb03).rep ?_ (base := 0))
    have hlen : (bks[i].values.take k ++ l ++ bks[i].values.drop (k + 1)).length = k + l.length + (vl - (k + 1)) := by
     rw [List.length_append, List.length_append, List.length_take, List.length_drop, hvl]; omega
    rw [hlen]
    exact own_base hown3 (Nat.zero_le _)
   have HRP := hide (put_rep hi HCS.out hb03 hown1' HR3.out)
   have hx03 := stay_set (a := ⟨g, i * 2, none⟩) (v := .slice p3 (k + l.length + (vl - (k + 1))) c3) ((hb13.block _ (by omega)).trans ((hb1.block _ hx0l).trans hx0)) (show w.heap.size ≠ g by omega)
   have hx23 := stay_set (a := ⟨g, i * 2, none⟩) (v := .slice p3 (k + l.length + (vl - (k + 1))) c3) ((hb13.block _ (by omega)).trans ((hb1.block _ hx2l).trans hx2)) (show w.heap.size + 1 + 1 ≠ g by omega)
   have hb4 : Below w.heap.size w (w3.setCell ⟨g, i * 2, none⟩ (.slice p3 (k + l.length + (vl - (k + 1))) c3)) := below_set hb03 (by omega) _ _
   clear hu0 hf0 hown3 HR3 HCL
   generalize w3.setCell ⟨g, i * 2, none⟩ (.slice p3 (k + l.length + (vl - (k + 1))) c3) = w4 at *
   have y0 := blk_cell hx03 0 _ rfl
   have t0 := blk_cell hx23 0 _ rfl
   have t1 := blk_cell hx23 1 _ rfl
   have z0 := blk_froz hx23 0
   have z1 := blk_froz hx23 1
   go_wp2
   have hr3 := set_block (o := 1) (v := .slice (some ⟨g, 0, none⟩) bks.length cap) (set_block (o := 0) (v := .int .i64 (args : Nat)) hx23)
   refine bodyPost_ret (v := .agg #[.int .i64 (args : Nat), .slice (some ⟨g, 0, none⟩) bks.length cap]) ?_ rfl ?_
   ·have d0 := blk_cell hr3 0 (.int .i64 (args : Nat)) rfl
    have d1 := blk_cell hr3 1 (.slice (some ⟨g, 0, none⟩) bks.length cap) rfl
    simp [results, Tryz.results127, go_sem, d0, d1]
   ·refine ⟨_, _, rfl, ?_, below_set (below_set hb4 (by omega) _ _) (by omega) _ _⟩
    exact ((HRP.out.set hx23 (by decide) (by decide) (by decide)).set (set_block hx23) (by decide) (by decide) (by decide))
namespace Code
def addNs (R : List Bool) (l : List Nat) : List Bool := l.foldl (fun R x => R.set x true) R
theorem addNs_length (R : List Bool) (l : List Nat) : (addNs R l).length = R.length := by
 unfold addNs
 induction l generalizing R with
 | nil => rfl
 | cons v l ih => rw [List.foldl_cons, ih]; simp
theorem addNs_app (R : List Bool) (a b : List Nat) : addNs R (a ++ b) = addNs (addNs R a) b := by simp [addNs]
theorem addNs_snoc (R : List Bool) (l : List Nat) (k : Nat) (h : k < l.length) : addNs R (l.take (k + 1)) = (addNs R (l.take k)).set l[k] true := by
 rw [List.take_add_one, List.getElem?_eq_getElem h, addNs_app]; rfl
theorem addNs_get (l : List Nat) (R : List Bool) (n : Nat) (hn : n < R.length) : (addNs R l).getD n false = (R.getD n false || l.contains n) := by
 induction l generalizing R with
 | nil => simp [addNs]
 | cons x l ih =>
  show (addNs (R.set x true) l).getD n false = _
  rw [ih _ (by simpa using hn), List.contains_cons, <- Bool.or_assoc]
  congr 1
  by_cases h : x = n
  ·subst h
   simp [List.getD_eq_getElem?_getD, hn]
  ·have h' : (n == x) = false := beq_eq_false_iff_ne.2 (fun e => h e.symm)
   rw [h', Bool.or_false, List.getD_eq_getElem?_getD, List.getElem?_set_ne h, List.getD_eq_getElem?_getD]
end Code
theorem add_any (sb : Nat) (R : List Bool) (hR : R.length = 60) (of : List Nat) (hof : ∀ x ∈ of, x < 60) (hlen : of.length <= 100000) (v : Value) (w : World) (hs : setRow w sb R) (hv : w.ownsRow 0 3 1 v of.length (nats of)) :
  Calls Tryz.prog 226 #[.pointer (some ⟨sb, 0, none⟩), v] w fun e w' => e = .returned (.tuple #[]) /\ setRow w' sb (Code.addNs R of) /\ w.grownBy w' (some sb) := by
 obtain ⟨p, cap, rfl, _⟩ := nats_open hv
 have HV := hide hv
 have HS := hide hs
 clear hv
 go_enter Tryz.func226, Tryz.ntmps226
 go_wp2_with fail
 go_loopw [8] (fun i wr => ∃ k : Nat, k <= of.length /\ i = .int .i64 k /\ setRow wr sb (Code.addNs R (of.take k)) /\ w.grownBy wr (some sb)) (fun i _ => of.length - (intOf i).toNat)
 case atStart => exact ⟨0, by omega, rfl, hs, grown_refl _ _⟩
 case round =>
  obtain ⟨k, hk, rfl, hsr, hg⟩ := hrel
  clear hs
  by_cases hlt : k < of.length
  ·obtain ⟨p', c', hpe, hval⟩ := nats_open (own_kept HS.out hg HV.out (by decide))
   simp only [Value.slice.injEq] at hpe
   obtain ⟨rfl, _, rfl⟩ := hpe
   obtain ⟨g, rfl, e0⟩ := hval k hlt
   have h60' := hof of[k] (List.getElem_mem hlt)
   have h60 : ((of[k] : Nat) : Int) < 60 := by omega
   have HN := hide (Code.addNs_snoc R of k hlt)
   have hA := Code.addNs_length R (of.take k)
   obtain ⟨u, hc⟩ : ∃ u, wr.cell? ⟨sb, of[k], none⟩ = some u := ⟨_, hsr.cell of[k] (by omega)⟩
   have hfz := blk_froz hsr of[k]
   have hkl : (k : Int) < (of.length : Int) := by omega
   clear hval hA
   generalize of[k] = x at *
   go_wp2
   exact ⟨⟨k + 1, by omega, by go_num, by rw [HN.out]; exact hsr.set _ true, grown_trans hg (grown_set _ _ _ _)⟩, by simp [intOf]; omega⟩
  ·have HA : Hid (of.take k = of) := hide (List.take_of_length_le (by omega))
   rw [HA.out] at hsr
   go_wp2
   refine bodyPost_end (results_none rfl _ _ _) rfl ?_
   exact ⟨rfl, hsr, hg⟩
theorem uses_any (y : Code.Thing) (v : Value) (w : World) (hy : ThingV w 0 y v) :
  Calls Tryz.prog 227 #[v] w fun e w' => ∃ r, e = .returned r /\ w'.ownsRow 0 3 1 r (Code.allUses y).length (nats (Code.allUses y)) /\ Below w.heap.size w w' := by
 cases y with
 | phi of =>
  obtain ⟨r, rfl, hr⟩ := hy
  have HR := hide hr
  obtain ⟨p, c, rfl⟩ := own_slice hr
  have t1 := isPhi_phi
  clear hr
  go_enter Tryz.func227, Tryz.ntmps227
  go_wp2
  go_ret
  exact ⟨_, rfl, own_below HR.out (below_al (Below.refl _ _) _), below_al (Below.refl _ _) _⟩
 | arg n =>
  have hy' : v = _ := hy
  have HI := hide (usesInPlace_any (.arg n) v 0 w hy)
  subst hy'
  have t1 := isPhi_arg
  clear hy
  go_enter Tryz.func227, Tryz.ntmps227
  go_wp2_with fail
  refine (HI.out).mono ?_
  rintro e w1 ⟨r, rfl, hr, hb⟩
  obtain ⟨p, c, rfl⟩ := own_slice hr
  have HR := hide hr
  clear hr
  go_wp2
  go_ret
  exact ⟨_, rfl, HR.out, hb⟩
 | const n =>
  have hy' : v = _ := hy
  have HI := hide (usesInPlace_any (.const n) v 0 w hy)
  subst hy'
  have t1 := isPhi_const
  clear hy
  go_enter Tryz.func227, Tryz.ntmps227
  go_wp2_with fail
  refine (HI.out).mono ?_
  rintro e w1 ⟨r, rfl, hr, hb⟩
  obtain ⟨p, c, rfl⟩ := own_slice hr
  have HR := hide hr
  clear hr
  go_wp2
  go_ret
  exact ⟨_, rfl, HR.out, hb⟩
 | apply k of =>
  have HI := hide (usesInPlace_any (.apply k of) v 0 w hy)
  obtain ⟨r, rfl, hr⟩ := hy
  obtain ⟨p, c, rfl⟩ := own_slice hr
  have t1 := isPhi_apply
  clear hr
  go_enter Tryz.func227, Tryz.ntmps227
  go_wp2_with fail
  refine (HI.out).mono ?_
  rintro e w1 ⟨r, rfl, hr, hb⟩
  obtain ⟨p, c, rfl⟩ := own_slice hr
  have HR := hide hr
  clear hr
  go_wp2
  go_ret
  exact ⟨_, rfl, HR.out, hb⟩
namespace Code
def usesV (l : List Val) : List Nat := l.flatMap fun v => allUses v.thing
def usesTo (bks : List Blk) (j : Nat) : List Nat := (bks.take j).flatMap usesB
theorem usesV_snoc (l : List Val) (k : Nat) (h : k < l.length) : usesV (l.take (k + 1)) = usesV (l.take k) ++ allUses l[k].thing := by
 unfold usesV
 rw [List.take_add_one, List.getElem?_eq_getElem h, List.flatMap_append]
 exact congrArg _ (List.append_nil _)
theorem usesTo_succ (bks : List Blk) (j : Nat) (h : j < bks.length) : usesTo bks (j + 1) = usesTo bks j ++ (usesV bks[j].values ++ useL bks[j].last) := by
 unfold usesTo
 rw [List.take_add_one, List.getElem?_eq_getElem h, List.flatMap_append]
 exact congrArg _ (List.append_nil _)
end Code
structure UseOk (bks : List Code.Blk) : Prop where
 val : ∀ b ∈ bks, ∀ v ∈ b.values, (Code.allUses v.thing).length <= 100000 /\ ∀ x ∈ Code.allUses v.thing, x < 60
 last : ∀ b ∈ bks, ∀ x ∈ Code.useL b.last, x < 60
theorem useL_short (z : Code.Last) : (Code.useL z).length <= 100000 := by cases z <;> simp [Code.useL]
theorem used_any (args : Nat) (bks : List Code.Blk) (p : Option Addr) (c : Nat) (w : World) (hf : RepBlks w 0 (.slice p bks.length c) bks) (hn : bks.length <= 8) (hl : ∀ b ∈ bks, b.values.length <= 100000) (hu : UseOk bks) :
  Calls Tryz.prog 213 #[.agg #[.int .i64 (args : Nat), .slice p bks.length c]] w fun e w' => e = .returned (.agg (setA (Code.addNs noNumber (bks.flatMap Code.usesB)))) /\ Below w.heap.size w w' := by
 have HU := hide hu
 have HL := hide hl
 obtain ⟨p', c', hpe, hblk⟩ := hf.open
 simp only [Value.slice.injEq] at hpe
 obtain ⟨rfl, _, rfl⟩ := hpe
 have HBLK := hide hblk
 clear hblk hf hu hl
 go_enter Tryz.func213, Tryz.ntmps213
 go_wp2_with fail
 generalize hw0 : ((w.alloc _).alloc _).alloc _ = w0
 have hr2 : setRow w0 (w.heap.size + 1 + 1) noNumber := by
  have h := heap_alloc_new ((w.alloc (.cells #[.int .i64 (args : Nat), .slice p bks.length c] 78)).alloc (.cells (setA noNumber) 281)) (.cells (setA noNumber) 281)
  rw [alloc_size, alloc_size] at h
  rw [<- hw0]; exact h
 have hr1 : setRow w0 (w.heap.size + 1) noNumber := by
  have h := heap_alloc_new (w.alloc (.cells #[.int .i64 (args : Nat), .slice p bks.length c] 78)) (.cells (setA noNumber) 281)
  rw [alloc_size] at h
  rw [<- hw0]; exact stay_alloc h
 have hb0 : Below w.heap.size w w0 := by rw [<- hw0]; exact below_al (below_al (below_al (Below.refl _ _) _) _) _
 clear hw0
 go_loopw [11] (fun i wr => ∃ (j : Nat), j <= bks.length /\ i = .int .i64 j /\ setRow wr (w.heap.size + 1 + 1) (Code.addNs noNumber (Code.usesTo bks j)) /\ setRow wr (w.heap.size + 1) noNumber /\ Below w.heap.size w wr) (fun i _ => bks.length - (intOf i).toNat)
 case atStart => exact ⟨0, by omega, rfl, hr2, hr1, hb0⟩
 case round =>
  obtain ⟨j, hj, rfl, h2, h1, hbw⟩ := hrel
  clear hb0 hr1 hr2
  have hz := hbw.size
  by_cases hlt : j < bks.length
  ·obtain ⟨g, vs, rfl, hg, c0, c1, hvs⟩ := HBLK.out j hlt
   have hlen := HL.out bks[j] (List.getElem_mem hlt)
   have HUJ := hide (HU.out.val bks[j] (List.getElem_mem hlt))
   have HULJ := hide (HU.out.last bks[j] (List.getElem_mem hlt))
   have hshort := useL_short bks[j].last
   obtain ⟨pv, cv, rfl, hval⟩ := hvs.open
   have c0' := bcell' hbw g _ hg _ c0
   obtain ⟨T, zv, hzv⟩ := lastV_shape bks[j].last
   have HUL := hide (usesOfLast_any bks[j].last)
   rw [hzv] at c1 HUL
   have c1' := bcell' hbw g _ hg _ c1
   have HSN := hide (Code.usesTo_succ bks j hlt)
   generalize Code.useL bks[j].last = ul at *
   generalize bks[j].values = vals at *
   have HV := hide hval
   clear hval c0 c1 hvs hzv
   generalize Code.usesTo bks j = F at *
   have hFl := Code.addNs_length noNumber F
   generalize hRF : Code.addNs noNumber F = RF at *
   have HRF := hide hRF
   clear hRF
   rename World => wo
   go_wp2_with fail
   generalize hw3 : wo.alloc _ = w3
   have hb3 : Below w.heap.size w w3 := by rw [<- hw3]; exact below_al hbw _
   have hk3 : w3.heap[wo.heap.size]? = some (.cells #[.slice pv vals.length cv, .iface T zv] 165) := by rw [<- hw3]; exact heap_alloc_new wo _
   have h23 : setRow w3 (w.heap.size + 1 + 1) RF := by rw [<- hw3]; exact stay_alloc h2
   have h13 : setRow w3 (w.heap.size + 1) noNumber := by rw [<- hw3]; exact stay_alloc h1
   have hl2 := lt_of_block h2
   generalize hB : wo.heap.size = B at *
   clear hw3 c0' c1' h1 h2
   go_loopw [18] (fun i ws => ∃ (k : Nat), k <= vals.length /\ i = .int .i64 k /\ setRow ws (w.heap.size + 1 + 1) (Code.addNs RF (Code.usesV (vals.take k))) /\ setRow ws (w.heap.size + 1) noNumber /\ ws.heap[B]? = some (.cells #[.slice pv vals.length cv, .iface T zv] 165) /\ Below w.heap.size w ws) (fun i _ => vals.length - (intOf i).toNat)
   case atStart => exact ⟨0, by omega, rfl, h23, h13, hk3, hb3⟩
   case round =>
    obtain ⟨k, hk, rfl, h2, h1, hkb, hbs⟩ := hrel
    clear hb3 h23 h13 hk3
    have hzs := hbs.size
    have hl1 := lt_of_block h1
    have hl3 := lt_of_block h2
    have hlB := lt_of_block hkb
    have hAl := Code.addNs_length RF (Code.usesV (vals.take k))
    by_cases hkt : k < vals.length
    ·obtain ⟨g2, th, rfl, hg2, d0, d1, hth⟩ := HV.out k hkt
     have d0' := bcell' hbs g2 _ hg2 _ d0
     have d1' := bcell' hbs g2 _ hg2 _ d1
     obtain ⟨hus, hu60⟩ := HUJ.out vals[k] (List.getElem_mem hkt)
     have HUS : Hid (∀ w1, Below wr.heap.size wr w1 -> Calls Tryz.prog 227 #[th] w1 fun e w' => ∃ r, e = .returned r /\ w'.ownsRow 0 3 1 r (Code.allUses vals[k].thing).length (nats (Code.allUses vals[k].thing)) /\ Below w1.heap.size w1 w') := hide fun w1 h1 => uses_any vals[k].thing th w1 ((hth.mono (fun _ _ _ h' => own_below h' hbs)).mono (fun _ _ _ h' => own_below h' h1))
     have HSV := hide (Code.usesV_snoc vals k hkt)
     obtain ⟨T', tv, rfl⟩ := hth.shape
     clear d0 d1 hth
     generalize vals[k].num = x at *
     generalize Code.allUses vals[k].thing = us at *
     have HU60 := hide hu60
     clear hu60
     go_wp2_with fail
     generalize hw9 : wr.alloc _ = w9
     have hb9 : Below wr.heap.size wr w9 := by rw [<- hw9]; exact below_al (Below.refl _ _) _
     clear hw9 d0' d1'
     refine (HUS.out w9 hb9).mono ?_
     rintro e w10 ⟨r, rfl, hr, hb10⟩
     have hb10' : Below wr.heap.size wr w10 := hb9.trans (hb10.mono hb9.size)
     have h210 : setRow w10 (w.heap.size + 1 + 1) (Code.addNs RF (Code.usesV (vals.take k))) := (hb10'.block _ hl3).trans h2
     have HADD := hide (add_any (w.heap.size + 1 + 1) _ (by rw [hAl, hFl]; rfl) us HU60.out hus r w10 h210 hr)
     obtain ⟨rp, rc, rfl⟩ := own_slice hr
     clear hr
     go_wp2_with fail
     refine (HADD.out).mono ?_
     rintro e w11 ⟨rfl, hs11, hg11⟩
     have h111 := kept_block ((hb10'.block _ hl1).trans h1) hg11 (by omega)
     have hkb11 := kept_block ((hb10'.block _ hlB).trans hkb) hg11 (by omega)
     have hb11 : Below w.heap.size w w11 := (hbs.trans (hb10'.mono hzs)).grown hg11 (by have := hb10'.size; omega) (fun j hj => by cases hj; omega)
     rw [<- Code.addNs_app] at hs11
     go_wp2
     exact ⟨⟨k + 1, by omega, by go_num, by rw [HSV.out]; exact hs11, h111, hkb11, hb11⟩, by simp [intOf]; omega⟩
    ·have HA : Hid (vals.take k = vals) := hide (List.take_of_length_le (by omega))
     rw [HA.out] at h2 hAl
     have f1 := blk_cell hkb 1 _ rfl
     have HULJ' := hide HULJ.out
     go_wp2_with fail
     refine (HUL.out wr).mono ?_
     rintro e w10 ⟨r, rfl, hr, hb10⟩
     have h210 : setRow w10 (w.heap.size + 1 + 1) (Code.addNs RF (Code.usesV vals)) := (hb10.block _ hl3).trans h2
     have HADD := hide (add_any (w.heap.size + 1 + 1) _ (by rw [hAl, hFl]; rfl) ul HULJ.out hshort r w10 h210 (own_base hr (Nat.zero_le _)))
     obtain ⟨rp, rc, rfl⟩ := own_slice hr
     clear hr
     go_wp2_with fail
     refine (HADD.out).mono ?_
     rintro e w11 ⟨rfl, hs11, hg11⟩
     have h111 := kept_block ((hb10.block _ hl1).trans h1) hg11 (by omega)
     have hb11 : Below w.heap.size w w11 := (hbs.trans (hb10.mono hzs)).grown hg11 (by have := hb10.size; omega) (fun j hj => by cases hj; omega)
     rw [<- HRF.out, <- Code.addNs_app, <- Code.addNs_app] at hs11
     go_wp2
     exact ⟨⟨j + 1, by omega, by go_num, by rw [HSN.out]; exact hs11, h111, hb11⟩, by simp [intOf]; omega⟩
  ·have h2' : setRow wr (w.heap.size + 1 + 1) (Code.addNs noNumber (bks.flatMap Code.usesB)) := by
    have h := h2
    rw [show Code.usesTo bks j = bks.flatMap Code.usesB by unfold Code.usesTo; rw [List.take_of_length_le (by omega)]] at h
    exact h
   have hA := Code.addNs_length noNumber (bks.flatMap Code.usesB)
   generalize hRR : Code.addNs noNumber (bks.flatMap Code.usesB) = R at *
   have HRR := hide hRR
   clear hRR
   have hl60 : R.length = 60 := by rw [hA]; rfl
   have HS := hide (setSize R hl60)
   have HS' := hide (setSize' R hl60)
   have HO := hide (setOne R)
   have HTH := hide h1.there
   clear h2
   go_wp2_with (first | refine wpList_load_mid rfl 281 _ rfl (w.heap.size + 1 + 1) 0 rfl (setL R) _ h2'.range Tryz.underlying281 rfl HS.out ?_ | refine wpList_store_mid rfl 281 _ _ rfl (w.heap.size + 1) 0 (setA R) rfl rfl ?_ HS'.out HO.out ?_)
   ·have h := HTH.out
    rw [show noNumber.length = (setA R).size by simp [noNumber, setA, setL, hl60]] at h
    exact h
   ·have hp : setRow (wr.setCells (w.heap.size + 1) 0 (setA R).toList) (w.heap.size + 1) R := h1.put R (by simp [noNumber, hl60])
    refine bodyPost_ret (v := .agg (setA R)) (results_cell_row rfl _ _ (w.heap.size + 1) 281 (setA R) _ _ rfl hp Tryz.underlying281 rfl HS'.out) rfl ?_
    exact ⟨by rw [HRR.out], below_cells hbw (by omega) _ _⟩
theorem isDiv_any (y : Code.Thing) (v : Value) (w : World) (hy : ThingV w 0 y v) :
  Calls Tryz.prog 217 #[v] w fun e w' => e = .returned (.bool (Code.isDivT y)) /\ Below w.heap.size w w' := by
 cases y with
 | phi of =>
  obtain ⟨r, rfl, hr⟩ := hy
  obtain ⟨p, c, rfl⟩ := own_slice hr
  have t1 := isApply_phi
  clear hr
  go_enter Tryz.func217, Tryz.ntmps217
  go_wp2
  go_ret
  exact ⟨rfl, Below.refl _ _⟩
 | arg n =>
  have hy' : v = _ := hy
  subst hy'
  have t1 := isApply_arg
  clear hy
  go_enter Tryz.func217, Tryz.ntmps217
  go_wp2
  go_ret
  exact ⟨rfl, Below.refl _ _⟩
 | const n =>
  have hy' : v = _ := hy
  subst hy'
  have t1 := isApply_const
  clear hy
  go_enter Tryz.func217, Tryz.ntmps217
  go_wp2
  go_ret
  exact ⟨rfl, Below.refl _ _⟩
 | apply k of =>
  obtain ⟨r, rfl, hr⟩ := hy
  obtain ⟨p, c, rfl⟩ := own_slice hr
  have t1 := isApply_apply
  have HD : Hid (Code.isDivT (.apply k of) = ((k : Int) == 3)) := by
   refine hide ?_
   by_cases h : k = 3
   ·subst h; rfl
   ·rw [beq_eq_false_iff_ne.2 (by omega)]
    unfold Code.isDivT
    split
    ·rename_i h'; simp at h'; omega
    ·rfl
  clear hr
  generalize Code.isDivT (.apply k of) = dv at *
  go_enter Tryz.func217, Tryz.ntmps217
  go_wp2
  go_ret
  exact ⟨ret_bool (by rw [HD.out]), below_al (Below.refl _ _) _⟩
def goesV (R : List Bool) (v : Code.Val) : Bool := !(R.getD v.num false) && !(Code.isDivT v.thing)
theorem gone_any (R : List Bool) (hR : R.length = 60) (y : Code.Val) (th : Value) (ub : Nat) (w : World) (hs : setRow w ub R) (hy : ThingV w 0 y.thing th) (hn : y.num < 60) :
  Calls Tryz.prog 216 #[.agg #[.int .i64 (y.num : Nat), th], .pointer (some ⟨ub, 0, none⟩)] w fun e w' => e = .returned (.bool (goesV R y)) /\ Below w.heap.size w w' := by
 have hc := hs.cell y.num (by omega)
 have hlt := lt_of_block hs
 have h60 : ((y.num : Nat) : Int) < 60 := by omega
 have hgd : R.getD y.num false = R[y.num]'(by omega) := by rw [List.getD_eq_getElem?_getD, List.getElem?_eq_getElem (by omega)]; rfl
 have HI : Hid (∀ w1, Below w.heap.size w w1 -> Calls Tryz.prog 217 #[th] w1 fun e w' => e = .returned (.bool (Code.isDivT y.thing)) /\ Below w1.heap.size w1 w') := hide fun w1 h1 => isDiv_any y.thing th w1 (hy.mono (fun _ _ _ h => own_below h h1))
 have HG : Hid (goesV R y = (!(R[y.num]'(by omega)) && !(Code.isDivT y.thing))) := by rw [goesV, hgd]; exact rfl
 obtain ⟨T, tv, rfl⟩ := hy.shape
 clear hy hgd hs
 generalize R[y.num]'(by omega) = b at *
 generalize Code.isDivT y.thing = dv at *
 generalize y.num = x at *
 generalize goesV R y = G at *
 cases b with
 | true =>
  go_enter Tryz.func216, Tryz.ntmps216
  go_wp2
  go_ret
  exact ⟨ret_bool (by rw [HG.out]; rfl), below_al (Below.refl _ _) _⟩
 | false =>
  go_enter Tryz.func216, Tryz.ntmps216
  go_wp2_with fail
  refine (HI.out _ (below_al (Below.refl _ _) _)).mono ?_
  rintro e w1 ⟨rfl, hb1⟩
  have hbw : Below w.heap.size w w1 := (below_al (Below.refl _ _) _).trans (hb1.mono (by simp))
  cases dv with
  | true =>
   go_wp2
   go_ret
   exact ⟨ret_bool (by rw [HG.out]; rfl), hbw⟩
  | false =>
   go_wp2
   go_ret
   exact ⟨ret_bool (by rw [HG.out]; rfl), hbw⟩
def VAt (w : World) (xs : List Value) (q : Nat) (y : Code.Val) : Prop := ∃ th, xs[q * 2]? = some (.int .i64 (y.num : Nat)) /\ xs[q * 2 + 1]? = some th /\ ThingV w 0 y.thing th
theorem VAt.mono {w w' : World} {xs : List Value} {q : Nat} {y : Code.Val} (h : VAt w xs q y) (hk : ∀ r n xs, w.ownsRow 0 3 1 r n xs -> w'.ownsRow 0 3 1 r n xs) : VAt w' xs q y := by
 obtain ⟨th, a, b, c⟩ := h
 exact ⟨th, a, b, c.mono hk⟩
def idxI (o : Option Nat) : Int := match o with
 | some k => (k : Int)
 | none => -1
theorem indexV_any (R : List Bool) (hR : R.length = 60) (l : List Code.Val) (np : Option Addr) (nc ub : Nat) (w : World) (hs : setRow w ub R) (hl : RepVals w 0 (.slice np l.length nc) l) (hn : l.length <= 100000) (h60 : ∀ v ∈ l, v.num < 60) :
  Calls Tryz.prog 228 #[.slice np l.length nc, .func (.func 216) #[] #[.pointer (some ⟨ub, 0, none⟩)]] w fun e w' => e = .returned (.int .i64 (idxI (l.findIdx? (goesV R)))) /\ Below w.heap.size w w' := by
 have HS := hide hs
 have HL := hide hl
 have H60 := hide h60
 clear hs hl h60
 go_enter Tryz.func228, Tryz.ntmps228
 go_wp2_with fail
 go_loopw [8] (fun i wr => ∃ k : Nat, k <= l.length /\ i = .int .i64 k /\ Below w.heap.size w wr /\ Hid (∀ j (hj : j < l.length), j < k -> goesV R l[j] = false)) (fun i _ => l.length - (intOf i).toNat)
 case atStart => exact ⟨0, by omega, rfl, Below.refl _ _, hide (fun j _ h => by omega)⟩
 case round =>
  obtain ⟨k, hk, rfl, hbw, hne⟩ := hrel
  by_cases hlt : k < l.length
  ·obtain ⟨p', c', hpe, hval⟩ := (HL.out.below hbw).open
   simp only [Value.slice.injEq] at hpe
   obtain ⟨rfl, _, rfl⟩ := hpe
   obtain ⟨g2, th, rfl, hg2, d0, d1, hth⟩ := hval k hlt
   have HG := hide (gone_any R hR l[k] th ub wr ((hbw.block _ (lt_of_block HS.out)).trans HS.out) hth (H60.out _ (List.getElem_mem hlt)))
   obtain ⟨T, tv, rfl⟩ := hth.shape
   have hkl : (k : Int) < (l.length : Int) := by omega
   clear hval hth
   cases hf : goesV R l[k] with
   | true =>
    have HSL : Hid (idxI (l.findIdx? (goesV R)) = (k : Int)) := by
     refine hide ?_
     have h : l.findIdx? (goesV R) = some k := by
      rw [List.findIdx?_eq_some_iff_getElem]
      exact ⟨hlt, hf, fun j hj h' => by
       have := hne.out j (by omega) hj
       exact absurd (h'.symm.trans this) (by simp)⟩
     rw [h]; rfl
    rw [hf] at HG
    clear hne hf
    generalize (l[k]).num = nw at *
    go_wp2_with fail
    refine (HG.out).mono ?_
    rintro e w4 ⟨rfl, hb4⟩
    go_wp2
    go_ret
    exact ⟨ret_int HSL.out.symm, hbw.trans (hb4.mono hbw.size)⟩
   | false =>
    have HN : Hid (∀ j (hj : j < l.length), j < k + 1 -> goesV R l[j] = false) := hide (fun j hj hjk => by
     by_cases h : j < k
     ·exact hne.out j hj h
     ·have : j = k := by omega
      subst this; exact hf)
    rw [hf] at HG
    clear hne hf
    generalize (l[k]).num = nw at *
    go_wp2_with fail
    refine (HG.out).mono ?_
    rintro e w4 ⟨rfl, hb4⟩
    have hb5 := hbw.trans (hb4.mono hbw.size)
    go_wp2
    exact ⟨⟨k + 1, by omega, by go_num, hb5, HN⟩, by simp [intOf]; omega⟩
  ·have HSL : Hid (idxI (l.findIdx? (goesV R)) = -1) := by
    refine hide ?_
    have h : l.findIdx? (goesV R) = none := by
     rw [List.findIdx?_eq_none_iff]
     intro x hx
     obtain ⟨j, hj, rfl⟩ := List.getElem_of_mem hx
     exact hne.out j hj (by omega)
    rw [h]; rfl
   clear hne
   go_wp2
   go_ret
   exact ⟨ret_int HSL.out.symm, hbw⟩
def zeroVs (n : Nat) : List Value := (Builtin.zeroCells (Value.agg #[Value.int .i64 0, Value.nilIface]).cells n).toList
theorem zeroVs_length (n : Nat) : (zeroVs n).length = n * 2 := by simp [zeroVs, size_zeroCells, Value.cells]
theorem zeroVs_one (n : Nat) : ∀ v ∈ zeroVs n, v.oneCell' = true := by
 intro v hv
 simp only [zeroVs, Builtin.zeroCells, Array.toList_map, List.mem_map, Value.cells] at hv
 obtain ⟨i, _, rfl⟩ := hv
 show (#[Value.int .i64 0, Value.nilIface][i % 2]!).oneCell' = true
 rcases Nat.mod_two_eq_zero_or_one i with h | h <;> rw [h] <;> rfl
theorem zeroVal (w : World) : (zeroValue 169).run Tryz.prog w = .ok (.agg #[.int .i64 0, .nilIface]) w := by kernel_rfl
theorem clearV_run (w : World) (ty : TypeId) (g o n c : Nat) (hn : 0 < n) (hc : ∀ j, j < n * 2 -> (w.cell? ⟨g, o + j, none⟩).isSome = true) (hf : ∀ j, j < n * 2 -> w.frozen? ⟨g, o + j, none⟩ = false) :
  (Builtin.clear_ #[161] ty #[.slice (some ⟨g, o, none⟩) n c]).run Tryz.prog w = .ok (.tuple #[]) (w.setCells g o (zeroVs n)) := by
 have hst := run_storeCells_cells (P := Tryz.prog) g o (zeroVs n) 0 w (by rw [zeroVs_length]; simpa using hc) (by rw [zeroVs_length]; simpa using hf) (zeroVs_one n)
 simp only [Nat.add_zero] at hst
 obtain ⟨m, rfl⟩ : ∃ m, n = m + 1 := ⟨n - 1, by omega⟩
 have hz := zeroVal
 unfold zeroVs at hst
 simp [Builtin.clear_, run_underlying Tryz.underlying161, hz, hst, zeroVs]
theorem own_clear {w : World} {base T g n cap i : Nat} {xs zs : List Value} (h : w.ownsRow base T 2 (.slice (some ⟨g, 0, none⟩) n cap) n xs) (hi : i <= n) (hz : zs.length = (n - i) * 2) :
  (w.setCells g (i * 2) zs).ownsRow base T 2 (.slice (some ⟨g, 0, none⟩) i cap) i (xs.take (i * 2)) := by
 have hl := h.1
 rcases h.2 with ⟨h0, _⟩ | ⟨g', cap', cur, hv, hbg, hg, hnc, hcm, hcs, htk⟩
 ·cases h0
 ·simp only [Value.slice.injEq, Option.some.injEq, Addr.mk.injEq] at hv
  obtain ⟨⟨rfl, _⟩, _, rfl⟩ := hv
  obtain ⟨C', h1, h2, h3, h4, h5⟩ := setCells_block g zs (i * 2) w cur hg (by omega)
  refine ⟨by rw [List.length_take]; omega, Or.inr ⟨g, cap, C', rfl, hbg, h1, by omega, hcm, by rw [h2]; exact hcs, ?_⟩⟩
  rw [<- htk, List.take_take, Nat.min_eq_left (by omega)]
  apply List.ext_getElem?
  intro j
  by_cases hj : j < i * 2
  ·rw [List.getElem?_take_of_lt hj, List.getElem?_take_of_lt hj]
   have := h3 j hj
   simpa using this
  ·rw [List.getElem?_eq_none (by rw [List.length_take]; omega), List.getElem?_eq_none (by rw [List.length_take]; omega)]
end Go.Proofs.YtedkjanogjglkaaGreatDoor
