/-
  Parts of the proof: RThings, RTrav, RStepP, RRen.
-/
import Derived.Test.YtedkjanogjglkaaGreatDoorP13
import Derived.Test.YtedkjanogjglkaaGreatDoorP09
set_option maxRecDepth 100000
set_option maxHeartbeats 4000000
namespace Go.Proofs.YtedkjanogjglkaaGreatDoor
open Go.RowKit
namespace Code
def lastThing (l : List Val) (n : Nat) : Option Thing := (l.reverse.find? fun v => v.num == n).map Val.thing
theorem lastThing_snoc (l : List Val) (v : Val) (n : Nat) : lastThing (l ++ [v]) n = if v.num = n then some v.thing else lastThing l n := by
 unfold lastThing
 rw [List.reverse_append, List.reverse_singleton, List.singleton_append, List.find?_cons]
 by_cases h : v.num = n
 ·simp [h]
 ·rw [if_neg h, beq_false_of_ne h]
def frontV (bks : List Blk) (j : Nat) : List Val := (bks.take j).flatMap Blk.values
theorem frontV_succ (bks : List Blk) (j : Nat) (h : j < bks.length) : frontV bks (j + 1) = frontV bks j ++ bks[j].values := by
 unfold frontV
 rw [List.take_add_one, List.getElem?_eq_getElem h, List.flatMap_append]
 exact congrArg _ (List.append_nil _)
theorem frontV_all (bks : List Blk) (j : Nat) (h : bks.length <= j) : frontV bks j = bks.flatMap Blk.values := by
 unfold frontV
 rw [List.take_of_length_le h]
theorem take_val (l : List Val) (k : Nat) (h : k < l.length) : l.take (k + 1) = l.take k ++ [l[k]] := by
 rw [List.take_add_one, List.getElem?_eq_getElem h]; rfl
end Code
def ThsV (w : World) (th : Nat -> Option Code.Thing) (tv : List Value) : Prop := tv.length = 60 /\ ∀ n (h : n < tv.length), ThV w (th n) tv[n]
def thRow (w : World) (g : Nat) (tv : List Value) : Prop := w.heap[g]? = some (.cells tv.toArray 216)
theorem ThV.one {w : World} {o : Option Code.Thing} {v : Value} (h : ThV w o v) : v.oneCell' = true := by
 cases o with
 | none => have h' : v = _ := h; subst h'; rfl
 | some t => obtain ⟨T, pv, rfl⟩ := ThingV.shape h; rfl
theorem ThsV.ones {w : World} {th : Nat -> Option Code.Thing} {tv : List Value} (h : ThsV w th tv) : tv.toArray.all (·.oneCell') = true := all_oneCell_toArray (fun v hv => by
 obtain ⟨n, hn, rfl⟩ := List.getElem_of_mem hv
 exact (h.2 n hn).one)
theorem thRow.cell {w : World} {g : Nat} {tv : List Value} (h : thRow w g tv) (i : Nat) (hi : i < tv.length) : w.cell? ⟨g, i, none⟩ = some tv[i] := blk_cell h i _ (by simp [hi])
theorem thRow.set {w : World} {g : Nat} {tv : List Value} (h : thRow w g tv) (i : Nat) (v : Value) : thRow (w.setCell ⟨g, i, none⟩ v) g (tv.set i v) := by
 unfold thRow at *
 rw [set_block h]
 simp
theorem thRow.range {w : World} {g : Nat} {tv : List Value} (h : thRow w g tv) : w.rangeAt g 0 tv := by
 intro j v hv
 rw [Nat.zero_add]
 exact blk_cell h j v (by simpa using hv)
theorem thRow.there {w : World} {g : Nat} {tv : List Value} (h : thRow w g tv) : w.there g 0 tv.length := by
 intro j hj
 rw [Nat.zero_add]
 exact ⟨by rw [h.cell j hj]; rfl, blk_froz h j⟩
theorem thRow.put {w : World} {g : Nat} {tv : List Value} (h : thRow w g tv) (tv' : List Value) (hl : tv'.length = tv.length) : thRow (w.setCells g 0 tv') g tv' := by
 obtain ⟨C', h1, h2, h3, h4, h5⟩ := setCells_block g tv' 0 w _ h (by simp [hl])
 unfold thRow
 rw [h1]
 congr 2
 apply Array.ext_getElem?
 intro j
 by_cases hj : j < tv'.length
 ·have := h4 j hj
  rw [Nat.zero_add] at this
  rw [this]; simp
 ·rw [Array.getElem?_eq_none (by rw [h2]; simp at *; omega), Array.getElem?_eq_none (by simp; omega)]
theorem thSize (tv : List Value) (h : tv.length = 60) : (Tryz.prog.info? 216).map (·.size) = some tv.length := by
 rw [h]; kernel_rfl
theorem thSize' (tv : List Value) (h : tv.length = 60) : (Tryz.prog.info? 216).map (·.size) = some tv.toArray.size := by
 simp only [List.size_toArray]; exact thSize tv h
theorem ThsV.put {w : World} {th th' : Nat -> Option Code.Thing} {tv : List Value} (h : ThsV w th tv) (n : Nat) (v : Value) (o : Option Code.Thing) (hv : ThV w o v) (he : ∀ k, th' k = if n = k then o else th k) : ThsV w th' (tv.set n v) := by
 refine ⟨by simp [h.1], fun k hk => ?_⟩
 rw [he k, List.getElem_set]
 split
 ·exact hv
 ·exact h.2 k (by simpa using hk)
def noThings : List Value := List.replicate 60 .nilIface
theorem noThings_is (w : World) : ThsV w (Code.lastThing []) noThings := ⟨by decide, fun n h => by
 exact List.getElem_replicate h⟩
theorem ThV.below {w w' : World} {o : Option Code.Thing} {v : Value} (h : ThV w o v) (hb : Below w.heap.size w w') : ThV w' o v := by
 cases o with
 | none => exact h
 | some t => exact ThingV.mono h (fun _ _ _ h => own_below h hb)
theorem ThsV.below {w w' : World} {th : Nat -> Option Code.Thing} {tv : List Value} (h : ThsV w th tv) (hb : Below w.heap.size w w') : ThsV w' th tv := ⟨h.1, fun n hn => (h.2 n hn).below hb⟩
structure FnOk (bks : List Code.Blk) : Prop where
 few : bks.length <= 8
 short : ∀ b ∈ bks, b.values.length <= 100000
 nums : ∀ b ∈ bks, ∀ v ∈ b.values, v.num < 60
theorem things_any (args : Nat) (bks : List Code.Blk) (p : Option Addr) (c : Nat) (w : World) (hf : RepBlks w 0 (.slice p bks.length c) bks) (hok : FnOk bks) :
  Calls Tryz.prog 124 #[.agg #[.int .i64 (args : Nat), .slice p bks.length c]] w fun e w' => ∃ tv, e = .returned (.agg tv.toArray) /\ ThsV w (Code.lastThing (bks.flatMap Code.Blk.values)) tv /\ Below w.heap.size w w' := by
 have HN := hide hok.nums
 have hn := hok.few
 have HL := hide hok.short
 obtain ⟨p', c', hpe, hblk⟩ := hf.open
 simp only [Value.slice.injEq] at hpe
 obtain ⟨rfl, _, rfl⟩ := hpe
 have HBLK := hide hblk
 clear hblk hf hok
 go_enter Tryz.func124, Tryz.ntmps124
 go_wp2
 generalize hw0 : ((w.alloc _).alloc _).alloc _ = w0
 have hr2 : thRow w0 (w.heap.size + 1 + 1) noThings := by
  have h := heap_alloc_new ((w.alloc (.cells #[.int .i64 (args : Nat), .slice p bks.length c] 78)).alloc (.cells noThings.toArray 216)) (.cells noThings.toArray 216)
  rw [alloc_size, alloc_size] at h
  rw [<- hw0]; exact h
 have hr1 : thRow w0 (w.heap.size + 1) noThings := by
  have h := heap_alloc_new (w.alloc (.cells #[.int .i64 (args : Nat), .slice p bks.length c] 78)) (.cells noThings.toArray 216)
  rw [alloc_size] at h
  rw [<- hw0]; exact stay_alloc h
 have hb0 : Below w.heap.size w w0 := by rw [<- hw0]; exact below_al (below_al (below_al (Below.refl _ _) _) _) _
 clear hw0
 go_loopw [11] (fun i wr => ∃ (j : Nat) (tv : List Value), j <= bks.length /\ i = .int .i64 j /\ Hid (ThsV w (Code.lastThing (Code.frontV bks j)) tv) /\ thRow wr (w.heap.size + 1 + 1) tv /\ thRow wr (w.heap.size + 1) noThings /\ Below w.heap.size w wr) (fun i _ => bks.length - (intOf i).toNat)
 case atStart => exact ⟨0, noThings, by omega, rfl, noThings_is w, hr2, hr1, hb0⟩
 case round =>
  obtain ⟨j, tv, hj, rfl, HT, h2, h1, hbw⟩ := hrel
  clear hb0 hr1 hr2
  have hz := hbw.size
  by_cases hlt : j < bks.length
  ·obtain ⟨g, vs, rfl, hg, c0, c1, hvs⟩ := HBLK.out j hlt
   have hlen := HL.out bks[j] (List.getElem_mem hlt)
   have HNJ := hide (HN.out bks[j] (List.getElem_mem hlt))
   obtain ⟨pv, cv, rfl, hval⟩ := hvs.open
   have c0' := bcell' hbw g _ hg _ c0
   obtain ⟨T, zv, hzv⟩ := lastV_shape bks[j].last
   rw [hzv] at c1
   have c1' := bcell' hbw g _ hg _ c1
   have HSN := hide (Code.frontV_succ bks j hlt)
   generalize bks[j].values = vals at *
   have HV := hide hval
   clear hval c0 c1 hvs hzv
   generalize Code.frontV bks j = F at *
   go_wp2_with fail
   generalize hw3 : wr.alloc _ = w3
   have hb3 : Below w.heap.size w w3 := by rw [<- hw3]; exact below_al hbw _
   have h23 : thRow w3 (w.heap.size + 1 + 1) tv := by rw [<- hw3]; exact stay_alloc h2
   have h13 : thRow w3 (w.heap.size + 1) noThings := by rw [<- hw3]; exact stay_alloc h1
   clear hw3 c0' c1' h1 h2
   rename World => wo
   go_loopw [18] (fun i ws => ∃ (k : Nat) (tu : List Value), k <= vals.length /\ i = .int .i64 k /\ Hid (ThsV w (Code.lastThing (F ++ vals.take k)) tu) /\ thRow ws (w.heap.size + 1 + 1) tu /\ thRow ws (w.heap.size + 1) noThings /\ Below w.heap.size w ws) (fun i _ => vals.length - (intOf i).toNat)
   case atStart => exact ⟨0, tv, by omega, rfl, by rw [List.take_zero, List.append_nil]; exact HT, h23, h13, hb3⟩
   case round =>
    obtain ⟨k, tu, hk, rfl, HTU, h2, h1, hbs⟩ := hrel
    clear hb3 h23 h13
    have hzs := hbs.size
    by_cases hkt : k < vals.length
    ·obtain ⟨g2, th, rfl, hg2, d0, d1, hth⟩ := HV.out k hkt
     have d0' := bcell' hbs g2 _ hg2 _ d0
     have d1' := bcell' hbs g2 _ hg2 _ d1
     have h60' := HNJ.out vals[k] (List.getElem_mem hkt)
     have h60 : ((vals[k].num : Nat) : Int) < 60 := by omega
     have HX : Hid (ThsV w (Code.lastThing (F ++ vals.take (k + 1))) (tu.set vals[k].num th)) := by
      refine HTU.out.put vals[k].num th (some vals[k].thing) hth fun q => ?_
      rw [Code.take_val vals k hkt, <- List.append_assoc, Code.lastThing_snoc]
     obtain ⟨b, hc⟩ : ∃ b, wr.cell? ⟨w.heap.size + 1 + 1, vals[k].num, none⟩ = some b := ⟨_, h2.cell vals[k].num (by rw [HTU.out.1]; exact h60')⟩
     have hfz := blk_froz h2 vals[k].num
     obtain ⟨T', tv', rfl⟩ := hth.shape
     clear d0 d1 hth
     have hlt1 := lt_of_block h1
     have hlt2 := lt_of_block h2
     generalize vals[k].num = x at *
     go_wp2
     exact ⟨⟨k + 1, _, by omega, by go_num, HX, stay_alloc (h2.set _ _), stay_alloc (stay_set h1 (show w.heap.size + 1 ≠ w.heap.size + 1 + 1 by omega)), below_al (below_set hbs (by omega) _ _) _⟩, by simp [intOf]; omega⟩
    ·have HA : Hid (vals.take k = vals) := hide (List.take_of_length_le (by omega))
     rw [HA.out] at HTU
     go_wp2
     exact ⟨⟨j + 1, tu, by omega, by go_num, by rw [HSN.out]; exact HTU, h2, h1, hbs⟩, by simp [intOf]; omega⟩
  ·have HT' : Hid (ThsV w (Code.lastThing (bks.flatMap Code.Blk.values)) tv) := by
    have h := HT.out
    rw [Code.frontV_all bks j (by omega)] at h
    exact h
   have hl60 := HT.out.1
   have HS := hide (thSize tv hl60)
   have HS' := hide (thSize' tv hl60)
   have HO := hide HT'.out.ones
   have HTH := hide h1.there
   go_wp2_with (first | refine wpList_load_mid rfl 216 _ rfl (w.heap.size + 1 + 1) 0 rfl tv _ h2.range Tryz.underlying216 rfl HS.out ?_ | refine wpList_store_mid rfl 216 _ _ rfl (w.heap.size + 1) 0 tv.toArray rfl rfl ?_ HS'.out HO.out ?_)
   ·have h := HTH.out
    rw [show noThings.length = tv.toArray.size by simp [noThings, hl60]] at h
    exact h
   ·have hp : thRow (wr.setCells (w.heap.size + 1) 0 tv.toArray.toList) (w.heap.size + 1) tv := h1.put tv (by simp [noThings, hl60])
    refine bodyPost_ret (v := .agg tv.toArray) (results_cell_row rfl _ _ (w.heap.size + 1) 216 tv.toArray _ _ rfl hp Tryz.underlying216 rfl HS'.out) rfl ?_
    exact ⟨tv, rfl, HT'.out, below_cells hbw (by omega) _ _⟩
open Go.Proofs.YtedkjanogjglkaaGreatDoor.Code (RTree Nm RSt Prs CRule)
namespace Code
mutual
def RTree.plain : RTree -> Bool
 | .op _ kids => plainAll kids
 | .fold _ _ => false
 | _ => true
def plainAll : List RTree -> Bool
 | [] => true
 | t :: l => t.plain && plainAll l
end
theorem plain_kids {f : List UInt8 -> Option (RTree × List UInt8)} (h : ∀ s t r, f s = some (t, r) -> t.plain = true) : ∀ (n : Nat) (s : List UInt8) (l : List RTree) (r : List UInt8), kidsP f n s = some (l, r) -> plainAll l = true
 | 0, s, l, r, e => by
  simp only [kidsP, Option.some.injEq, Prod.mk.injEq] at e
  rw [<- e.1]; rfl
 | n + 1, s, l, r, e => by
  simp only [kidsP, Option.bind_eq_some_iff, Option.map_eq_some_iff] at e
  obtain ⟨a, _, p, hp, q, hq, e⟩ := e
  simp only [Prod.mk.injEq] at e
  rw [<- e.1, plainAll, h _ _ _ hp, plain_kids h n _ _ _ hq]; rfl
theorem plain_inner {f : List UInt8 -> Option (RTree × List UInt8)} (h : ∀ s t r, f s = some (t, r) -> t.plain = true) (s : List UInt8) (t : RTree) (r : List UInt8) (e : innerP f .op s = some (t, r)) : t.plain = true := by
 simp only [innerP, Option.bind_eq_some_iff, Option.map_eq_some_iff] at e
 obtain ⟨k, _, p, hp, q, _, e⟩ := e
 simp only [Prod.mk.injEq] at e
 rw [<- e.1, RTree.plain]
 exact plain_kids h _ _ _ _ hp
theorem plain_atom {s : List UInt8} {t : RTree} {r : List UInt8} (h : atomP s = some (t, r)) : t.plain = true := by
 have hd := atomP_depth h
 cases t <;> simp_all [RTree.plain, RTree.depth]
theorem plain_tree : ∀ (d : Nat) (s : List UInt8) (t : RTree) (r : List UInt8), treeP false d s = some (t, r) -> t.plain = true
 | 0, s, t, r, h => by
  simp only [treeP, Bool.false_eq_true, false_and, if_false] at h
  split at h
  ·cases h
  ·exact plain_atom h
 | d + 1, s, t, r, h => by
  simp only [treeP, Bool.false_eq_true, if_false] at h
  split at h
  ·exact plain_inner (plain_tree d) _ _ _ h
  ·exact plain_atom h
mutual
def RTree.fine : RTree -> Prop
 | .num c => -2147483648 <= c /\ c < 2147483648
 | .op k kids => k < 13 /\ kids.length = opOf k /\ fineAll kids
 | .fold k kids => k < 13 /\ kids.length = opOf k /\ fineAll kids
 | _ => True
def fineAll : List RTree -> Prop
 | [] => True
 | t :: l => t.fine /\ fineAll l
end
theorem fine_kids {f : List UInt8 -> Option (RTree × List UInt8)} (h : ∀ s t r, f s = some (t, r) -> t.fine) : ∀ (n : Nat) (s : List UInt8) (l : List RTree) (r : List UInt8), kidsP f n s = some (l, r) -> l.length = n /\ fineAll l
 | 0, s, l, r, e => by
  simp only [kidsP, Option.some.injEq, Prod.mk.injEq] at e
  rw [<- e.1]; exact ⟨rfl, trivial⟩
 | n + 1, s, l, r, e => by
  simp only [kidsP, Option.bind_eq_some_iff, Option.map_eq_some_iff] at e
  obtain ⟨a, _, p, hp, q, hq, e⟩ := e
  simp only [Prod.mk.injEq] at e
  obtain ⟨h1, h2⟩ := fine_kids h n _ _ _ hq
  rw [<- e.1]
  exact ⟨by simp [h1], h _ _ _ hp, h2⟩
theorem fine_inner {f : List UInt8 -> Option (RTree × List UInt8)} (h : ∀ s t r, f s = some (t, r) -> t.fine) (mk : Nat -> List RTree -> RTree) (hmk : ∀ k l, k < 13 -> l.length = opOf k -> fineAll l -> (mk k l).fine) (s : List UInt8) (t : RTree) (r : List UInt8) (e : innerP f mk s = some (t, r)) : t.fine := by
 simp only [innerP, Option.bind_eq_some_iff, Option.map_eq_some_iff] at e
 obtain ⟨k, hk, p, hp, q, _, e⟩ := e
 simp only [Prod.mk.injEq] at e
 obtain ⟨h1, h2⟩ := fine_kids h _ _ _ _ hp
 rw [<- e.1]
 exact hmk _ _ (opNamed_lt hk) h1 h2
theorem fine_atom {s : List UInt8} {t : RTree} {r : List UInt8} (h : atomP s = some (t, r)) : t.fine := by
 unfold atomP at h
 split at h
 ·simp only [Option.map_eq_some_iff, Prod.mk.injEq] at h
  obtain ⟨p, _, e, _⟩ := h
  rw [<- e]; trivial
 ·split at h
  ·simp only [Option.map_eq_some_iff, Prod.mk.injEq] at h
   obtain ⟨p, hp, e, _⟩ := h
   rw [<- e]
   have := (signed_length (n := p.1) (t := p.2) hp).2
   exact ⟨this.1, by omega⟩
  ·simp only [Option.map_eq_some_iff, Prod.mk.injEq] at h
   obtain ⟨p, _, e, _⟩ := h
   rw [<- e]; trivial
theorem fine_tree (result : Bool) : ∀ (d : Nat) (s : List UInt8) (t : RTree) (r : List UInt8), treeP result d s = some (t, r) -> t.fine
 | 0, s, t, r, h => by
  simp only [treeP] at h
  split at h
  ·cases h
  ·split at h
   ·cases h
   ·exact fine_atom h
 | d + 1, s, t, r, h => by
  simp only [treeP] at h
  split at h
  ·exact fine_inner (fine_tree result d) .op (fun _ _ h1 h2 h3 => ⟨h1, h2, h3⟩) _ _ _ h
  ·split at h
   ·exact fine_inner (fine_tree result d) .fold (fun _ _ h1 h2 h3 => ⟨h1, h2, h3⟩) _ _ _ h
   ·exact fine_atom h
def travL (ns : List Nm) : List Nm -> Nat -> Option Nat
 | [], m => some m
 | p :: l, m => (if slotIx ns p.1 = m then some (m + 1) else if slotIx ns p.1 < m then some m else none).bind fun m' => travL ns l m'
theorem travL_app (ns : List Nm) : ∀ (l k : List Nm) (m : Nat), travL ns (l ++ k) m = (travL ns l m).bind fun m' => travL ns k m'
 | [], k, m => rfl
 | p :: l, k, m => by
  simp only [List.cons_append, travL]
  cases (if slotIx ns p.1 = m then some (m + 1) else if slotIx ns p.1 < m then some m else none) with
  | none => rfl
  | some m' => exact travL_app ns l k m'
mutual
theorem trav_names (ns : List Nm) : ∀ (t : RTree) (m : Nat), t.plain = true -> trav ns t m = travL ns t.names m
 | .name x, m, _ => by
  simp only [trav, RTree.names, travL]
  split
  ·rfl
  ·split <;> rfl
 | .hash x, m, _ => by
  simp only [trav, RTree.names, travL]
  split
  ·rfl
  ·split <;> rfl
 | .num c, m, _ => rfl
 | .op k kids, m, h => travAll_names ns kids m (by simpa [RTree.plain] using h)
 | .fold k kids, m, h => by simp [RTree.plain] at h
theorem travAll_names (ns : List Nm) : ∀ (l : List RTree) (m : Nat), plainAll l = true -> travAll ns l m = travL ns (namesAll l) m
 | [], m, _ => rfl
 | t :: l, m, h => by
  simp only [plainAll, Bool.and_eq_true] at h
  simp only [travAll, namesAll, travL_app]
  rw [trav_names ns t m h.1]
  cases travL ns t.names m with
  | none => rfl
  | some m' => exact travAll_names ns l m' h.2
end
theorem slotAt_app {ns m : List Nm} {x : List UInt8} {k : Nat} (h : slotAt ns x = some k) : slotAt (ns ++ m) x = some k := by
 unfold slotAt at h ⊢
 rw [List.findIdx?_append, h]; rfl
theorem slotAt_lt {ns : List Nm} {x : List UInt8} {k : Nat} (h : slotAt ns x = some k) : k < ns.length := (List.findIdx?_eq_some_iff_getElem.1 h).1
def Dist (ns : List Nm) : Prop := ∀ i p, ns[i]? = some p -> slotAt ns p.1 = some i
theorem Dist.snoc {ns : List Nm} (h : Dist ns) {p : Nm} (hp : slotAt ns p.1 = none) : Dist (ns ++ [p]) := by
 intro i q hq
 by_cases hi : i < ns.length
 ·rw [List.getElem?_append_left hi] at hq
  exact slotAt_app (h i q hq)
 ·rw [List.getElem?_append_right (by omega)] at hq
  have h0 : i - ns.length = 0 := by
   rcases Nat.eq_zero_or_pos (i - ns.length) with h | h
   ·exact h
   ·rw [List.getElem?_eq_none (by simp; omega)] at hq; cases hq
  rw [h0] at hq
  simp only [List.getElem?_cons_zero, Option.some.injEq] at hq
  subst hq
  unfold slotAt at hp ⊢
  rw [List.findIdx?_append, hp]
  have : i = ns.length := by omega
  simp [this]
theorem bindS_dist {st st' : RSt} {p : Nm} (h : bindS st p = some st') (hd : Dist st.names) : Dist st'.names /\ ∃ m, st'.names = st.names ++ m := by
 unfold bindS at h
 split at h
 ·split at h
  ·simp only [Option.some.injEq] at h; subst h; exact ⟨hd, [], by simp⟩
  ·cases h
 ·rename_i hs
  simp only [Option.some.injEq] at h; subst h
  exact ⟨hd.snoc hs, [p], rfl⟩
theorem slots_dist : ∀ (l : List Nm) (st st' : RSt), slots bindS st l = some st' -> Dist st.names -> Dist st'.names /\ ∃ m, st'.names = st.names ++ m
 | [], st, st', h, hd => by
  simp only [slots, Option.some.injEq] at h; subst h; exact ⟨hd, [], by simp⟩
 | p :: l, st, st', h, hd => by
  simp only [slots, Option.bind_eq_some_iff] at h
  obtain ⟨s1, h1, h2⟩ := h
  obtain ⟨d1, m1, e1⟩ := bindS_dist h1 hd
  obtain ⟨d2, m2, e2⟩ := slots_dist l s1 st' h2 d1
  exact ⟨d2, m1 ++ m2, by rw [e2, e1, List.append_assoc]⟩
theorem travL_slots (ns : List Nm) (hns : Dist ns) : ∀ (l : List Nm) (st st' : RSt), slots bindS st l = some st' -> Dist st.names -> (∃ m, ns = st'.names ++ m) -> travL ns l st.names.length = some st'.names.length
 | [], st, st', h, hd, hm => by
  simp only [slots, Option.some.injEq] at h; subst h; rfl
 | p :: l, st, st', h, hd, hm => by
  simp only [slots, Option.bind_eq_some_iff] at h
  obtain ⟨s1, h1, h2⟩ := h
  obtain ⟨d1, m1, e1⟩ := bindS_dist h1 hd
  obtain ⟨d2, m2, e2⟩ := slots_dist l s1 st' h2 d1
  have ih := travL_slots ns hns l s1 st' h2 d1 hm
  obtain ⟨m, hm⟩ := hm
  simp only [travL]
  unfold bindS at h1
  split at h1
  ·rename_i k hk
   split at h1
   ·simp only [Option.some.injEq] at h1; subst h1
    have hk' : slotIx ns p.1 = k := by
     unfold slotIx
     rw [hm, e2, List.append_assoc, slotAt_app hk]; rfl
    have := slotAt_lt hk
    rw [hk', if_neg (by omega), if_pos this]
    exact ih
   ·cases h1
  ·simp only [Option.some.injEq] at h1; subst h1
   have hx : ns[st.names.length]? = some p := by
    rw [hm, e2, List.append_assoc, List.append_assoc, List.getElem?_append_right (Nat.le_refl _)]
    simp
   have hk' : slotIx ns p.1 = st.names.length := by
    unfold slotIx
    rw [hns _ _ hx]; rfl
   rw [if_pos hk']
   simp only [List.length_append, List.length_singleton] at ih
   exact ih
structure RuleOk (R : CRule) : Prop where
 slots : Code.slots bindS ⟨[], false⟩ R.node.names = some ⟨R.names, false⟩
 plain : R.node.plain = true
 bound : ∀ p ∈ R.result.names, (slotOf R.names p).isSome = true
 folds : R.result.folds false = true
 fineN : R.node.fine
 fineR : R.result.fine
 node : ∃ k l, R.node = .op k l /\ k < 13 /\ k ≠ 3 /\ R.result.heavy < opW k
theorem RuleOk.dist {R : CRule} (h : RuleOk R) : Dist R.names := (slots_dist _ _ _ h.slots (by intro i p hp; simp at hp)).1
theorem RuleOk.trav {R : CRule} (h : RuleOk R) : trav R.names R.node 0 = some R.names.length := by
 rw [trav_names _ _ _ h.plain]
 exact travL_slots R.names h.dist _ ⟨[], false⟩ ⟨R.names, false⟩ h.slots (by intro i p hp; simp at hp) ⟨[], by simp⟩
theorem RuleOk.mem {R : CRule} (h : RuleOk R) : ∀ p, p ∈ R.names ↔ p ∈ R.node.names := by
 obtain ⟨_, _, h3, _⟩ := (bind_all R.node.names ⟨[], false⟩ (by intro p hp; cases hp)).1 _ h.slots
 intro p
 rw [h3 p]
 simp
def nodeW : RTree -> Int
 | .op k _ => opW k
 | _ => 0
theorem lineS_nodeW (s : List UInt8) : lineS s = match ruleS s with
  | none => .error 6
  | some (n, r, st) => if st.unbound = true then .error 7 else if n.isDiv = true \/ nodeW n <= r.heavy then .error 8 else .ok (n, r, st.names) := by
 unfold lineS
 cases ruleS s with
 | none => rfl
 | some q =>
  rcases q with ⟨n, r, st⟩
  cases n <;> rfl
theorem lineS_rule {s : List UInt8} {n r : RTree} {ns : List Nm} (h : lineS s = .ok (n, r, ns)) : RuleOk ⟨n, r, ns⟩ := by
 have hnode' : operS (partS 3) .op ⟨[], false⟩ s = (nodeP s).bind (upon (fun _ => true) bindS ⟨[], false⟩) := oper_upon (c' := fun _ => true) (mk := .op) (part_upon 3) (fun k l => by simp [RTree.names]) (fun k l => (all_true l).symm) ⟨[], false⟩ s
 rw [lineS_nodeW] at h
 cases hr : ruleS s with
 | none => rw [hr] at h; cases h
 | some q =>
  rcases q with ⟨n', r', st⟩
  rw [hr] at h
  simp only at h
  split at h
  ·cases h
  ·rename_i hu
   split at h
   ·cases h
   ·rename_i hw
    simp only [Except.ok.injEq, Prod.mk.injEq] at h
    obtain ⟨rfl, rfl, rfl⟩ := h
    unfold ruleS at hr
    rw [hnode'] at hr
    simp only [Option.bind_eq_some_iff] at hr
    obtain ⟨p, ⟨p0, hp0, hp⟩, r1, hr1, q, hq, hfin⟩ := hr
    split at hfin
    ·simp only [Option.some.injEq, Prod.mk.injEq] at hfin
     obtain ⟨e1, e2, e3⟩ := hfin
     simp only [upon, if_true, Option.map_eq_some_iff] at hp
     obtain ⟨st1, hst1, hp⟩ := hp
     subst hp
     simp only at e1 hr1 hq
     rw [res_upon] at hq
     simp only [Option.bind_eq_some_iff] at hq
     obtain ⟨q0, hq0, hq⟩ := hq
     simp only [upon] at hq
     split at hq
     ·rename_i hfold
      simp only [Option.map_eq_some_iff] at hq
      obtain ⟨st2, hst2, hq⟩ := hq
      subst hq
      simp only at e2 e3
      subst e1 e2 e3
      obtain ⟨c1, c2, c3, _⟩ := (bind_all p0.1.names ⟨[], false⟩ (by intro p hp; cases hp)).1 st1 hst1
      have hst : st1 = ⟨st1.names, false⟩ := by
       have c1' : st1.unbound = false := c1
       cases st1; simp only at c1'; subst c1'; rfl
      have hfa := find_all st1 q0.1.names false
      rw [<- hst, hst2] at hfa
      simp only [Option.some.injEq, Bool.false_or] at hfa
      subst hfa
      simp only at hu
      obtain ⟨k, l, hk, hk13⟩ := nodeP_op (t := p0.1) (r := p0.2) hp0
      refine ⟨?_, ?_, ?_, hfold, ?_, fine_tree true 4 _ _ _ hq0, k, l, hk, hk13, ?_, ?_⟩
      ·rw [hst1]; exact congrArg some hst
      ·unfold nodeP at hp0
       simp only [Option.bind_eq_some_iff] at hp0
       obtain ⟨s1, _, hp1⟩ := hp0
       exact plain_inner (plain_tree 3) _ _ _ hp1
      ·intro p hp
       simp only [List.any_eq_true, not_exists, not_and] at hu
       have := hu p hp
       cases hs : slotOf st1.names p with
       | none => rw [hs] at this; simp at this
       | some _ => rfl
      ·unfold nodeP at hp0
       simp only [Option.bind_eq_some_iff] at hp0
       obtain ⟨s1, _, hp1⟩ := hp0
       exact fine_inner (fine_tree false 3) .op (fun _ _ h1 h2 h3 => ⟨h1, h2, h3⟩) _ _ _ hp1
      ·rintro rfl
       exact hw (Or.inl (by rw [hk]; rfl))
      ·rw [hk] at hw
       exact Int.not_le.1 fun h => hw (Or.inr h)
     ·cases hq
    ·cases hfin
def knOf (ns : List Nm) (of : List Nat) : Known := (ns.map (·.1)).zip of
theorem lookK_knOf {ns : List Nm} (hd : Dist ns) {of : List Nat} {i : Nat} {p : Nm} (hp : ns[i]? = some p) : lookK (knOf ns of) p.1 = of[i]? := by
 unfold lookK knOf
 have hs := hd i p hp
 have hi := (List.getElem?_eq_some_iff.1 hp).1
 have hfirst : ∀ j (hj : j < ns.length), j < i -> ns[j].1 ≠ p.1 := by
  intro j hj hji he
  obtain ⟨_, _, h3⟩ := List.findIdx?_eq_some_iff_getElem.1 hs
  have := h3 j hji
  simp [he] at this
 by_cases hof : i < of.length
 ·rw [List.getElem?_eq_getElem hof]
  have hz : ((ns.map (·.1)).zip of).find? (fun q => q.1 == p.1) = some (p.1, of[i]) := by
   rw [List.find?_eq_some_iff_getElem]
   refine ⟨by simp, i, by simp; omega, ?_, ?_⟩
   ·have e := (List.getElem?_eq_some_iff.1 hp).2
    simp [e]
   ·intro j hj
    simp only [List.getElem_zip, List.getElem_map, Bool.not_eq_true', beq_eq_false_iff_ne]
    exact hfirst j (by omega) hj
  rw [hz]; rfl
 ·rw [List.getElem?_eq_none (by omega)]
  have hz : ((ns.map (·.1)).zip of).find? (fun q => q.1 == p.1) = none := by
   rw [List.find?_eq_none]
   intro q hq
   obtain ⟨j, hj, rfl⟩ := List.getElem_of_mem hq
   simp only [List.length_zip, List.length_map] at hj
   simp only [List.getElem_zip, List.getElem_map, beq_iff_eq]
   exact hfirst j (by omega) (by omega)
  rw [hz]; rfl
theorem knOf_snoc {ns : List Nm} {of : List Nat} {p : Nm} (hp : ns[of.length]? = some p) (n : Nat) : knOf ns (of ++ [n]) = knOf ns of ++ [(p.1, n)] := by
 obtain ⟨hl, he⟩ := List.getElem?_eq_some_iff.1 hp
 have hd : ns = ns.take of.length ++ p :: ns.drop (of.length + 1) := by
  conv => lhs; rw [<- List.take_append_drop of.length ns]
  rw [List.drop_eq_getElem_cons hl, he]
 unfold knOf
 rw [hd, List.map_append, List.map_cons]
 have hlen : ((ns.take of.length).map (·.1)).length = of.length := by simp; omega
 rw [List.zip_append hlen]
 have h2 : ((ns.take of.length).map (·.1) ++ p.1 :: (ns.drop (of.length + 1)).map (·.1)).zip (of ++ []) = ((ns.take of.length).map (·.1)).zip of ++ (p.1 :: (ns.drop (of.length + 1)).map (·.1)).zip [] := List.zip_append hlen
 rw [List.append_nil] at h2
 rw [h2]
 simp
def Hashed (th : Nat -> Option Thing) (ns : List Nm) (of : List Nat) : Prop := ∀ (i : Nat) (x : List UInt8), ns[i]? = some (x, true) -> ∀ v, of[i]? = some v -> (constOf th v).isSome = true
theorem Hashed.snoc {th : Nat -> Option Thing} {ns : List Nm} {of : List Nat} (h : Hashed th ns of) {n : Nat} (hn : ∀ x, ns[of.length]? = some (x, true) -> (constOf th n).isSome = true) : Hashed th ns (of ++ [n]) := by
 intro i x hx v hv
 by_cases hi : i < of.length
 ·rw [List.getElem?_append_left hi] at hv
  exact h i x hx v hv
 ·have hi' : i = of.length := by
   have := (List.getElem?_eq_some_iff.1 hv).1
   simp at this; omega
  subst hi'
  rw [List.getElem?_append_right (Nat.le_refl _)] at hv
  simp only [Nat.sub_self, List.getElem?_cons_zero, Option.some.injEq] at hv
  subst hv
  exact hn x hx
theorem dist_slot {ns : List Nm} (hd : Dist ns) {p : Nm} (hp : p ∈ ns) : ns[slotIx ns p.1]? = some p := by
 obtain ⟨i, hi, rfl⟩ := List.getElem_of_mem hp
 have h := hd i ns[i] (List.getElem?_eq_getElem hi)
 unfold slotIx
 rw [h]
 exact List.getElem?_eq_getElem hi
theorem firstOf_new {of : List Nat} {i n : Nat} (h : i = of.length) : firstOf of i n = of ++ [n] := if_pos h
theorem firstOf_old {of : List Nat} {i n : Nat} (h : i ≠ of.length) : firstOf of i n = of := if_neg h
mutual
theorem cfits_fits (th : Nat -> Option Thing) (ns : List Nm) (hd : Dist ns) : ∀ (t : RTree) (n : Nat) (of : List Nat) (m' : Nat), t.plain = true -> (∀ p ∈ t.names, p ∈ ns) -> Hashed th ns of -> trav ns t of.length = some m' ->
  fits th t n (knOf ns of) = (cfits th ns t n of).map (knOf ns) /\ ∀ of', cfits th ns t n of = some of' -> Hashed th ns of' /\ of'.length = m'
 | .num c, n, of, m', _, _, hh, ht => by
  simp only [trav, Option.some.injEq] at ht
  simp only [fits, cfits]
  split
  ·exact ⟨rfl, fun of' h => by simp only [Option.some.injEq] at h; subst h; exact ⟨hh, ht⟩⟩
  ·exact ⟨rfl, fun of' h => by cases h⟩
 | .name x, n, of, m', _, hm, hh, ht => by
  have hp := dist_slot hd (hm (x, false) (by simp [RTree.names]))
  simp only at hp
  have hk := lookK_knOf hd (of := of) hp
  simp only at hk
  simp only [trav] at ht
  simp only [fits, cfits]
  by_cases he : slotIx ns x = of.length
  ·rw [if_pos he, Option.some.injEq] at ht
   simp only [hk, he, firstOf_new (rfl : of.length = of.length), List.getElem?_eq_none (Nat.le_refl of.length)]
   rw [he] at hp
   rw [List.getElem?_append_right (Nat.le_refl _)]
   simp only [Nat.sub_self, List.getElem?_cons_zero, if_true, Option.map_some]
   refine ⟨by rw [knOf_snoc hp], fun of' h => ?_⟩
   simp only [Option.some.injEq] at h; subst h
   refine ⟨hh.snoc fun y hy => ?_, by simpa using ht⟩
   rw [hp] at hy; simp at hy
  ·rw [if_neg he] at ht
   split at ht
   ·rename_i hlt
    simp only [Option.some.injEq] at ht
    simp only [firstOf_old he, hk, List.getElem?_eq_getElem hlt, Option.some.injEq]
    split
    ·exact ⟨rfl, fun of' h => by simp only [Option.some.injEq] at h; subst h; exact ⟨hh, ht⟩⟩
    ·exact ⟨rfl, fun of' h => by cases h⟩
   ·cases ht
 | .hash x, n, of, m', _, hm, hh, ht => by
  have hp := dist_slot hd (hm (x, true) (by simp [RTree.names]))
  simp only at hp
  have hk := lookK_knOf hd (of := of) hp
  simp only at hk
  simp only [trav] at ht
  simp only [fits, cfits]
  cases hc : constOf th n with
  | none => exact ⟨rfl, fun of' h => by cases h⟩
  | some c =>
   simp only
   by_cases he : slotIx ns x = of.length
   ·rw [if_pos he, Option.some.injEq] at ht
    simp only [hk, he, firstOf_new (rfl : of.length = of.length), List.getElem?_eq_none (Nat.le_refl of.length)]
    rw [he] at hp
    rw [List.getElem?_append_right (Nat.le_refl _)]
    simp only [Nat.sub_self, List.getElem?_cons_zero, Option.getD_some, hc, if_true, Option.map_some]
    refine ⟨by rw [knOf_snoc hp], fun of' h => ?_⟩
    simp only [Option.some.injEq] at h; subst h
    refine ⟨hh.snoc fun y hy => ?_, by simpa using ht⟩
    rw [hc]; rfl
   ·rw [if_neg he] at ht
    split at ht
    ·rename_i hlt
     simp only [Option.some.injEq] at ht
     simp only [firstOf_old he, hk, List.getElem?_eq_getElem hlt, Option.getD_some]
     have hs := hh _ _ hp of[slotIx ns x] (List.getElem?_eq_getElem hlt)
     obtain ⟨d, hdd⟩ := Option.isSome_iff_exists.1 hs
     rw [hdd]
     simp only [Option.some.injEq, Option.getD_some]
     split
     ·exact ⟨rfl, fun of' h => by simp only [Option.some.injEq] at h; subst h; exact ⟨hh, ht⟩⟩
     ·exact ⟨rfl, fun of' h => by cases h⟩
    ·cases ht
 | .op k kids, n, of, m', hpl, hm, hh, ht => by
  simp only [fits, cfits]
  cases hth : th n with
  | none => exact ⟨rfl, fun of' h => by cases h⟩
  | some thg =>
   cases thg with
   | apply j args =>
    simp only
    split
    ·exact cfitsAll_fits th ns hd kids args of m' (by simpa [RTree.plain] using hpl) (by simpa [RTree.names] using hm) hh (by simpa [trav] using ht)
    ·exact ⟨rfl, fun of' h => by cases h⟩
   | phi _ => exact ⟨rfl, fun of' h => by cases h⟩
   | arg _ => exact ⟨rfl, fun of' h => by cases h⟩
   | const _ => exact ⟨rfl, fun of' h => by cases h⟩
 | .fold k kids, n, of, m', hpl, _, _, _ => by simp [RTree.plain] at hpl
theorem cfitsAll_fits (th : Nat -> Option Thing) (ns : List Nm) (hd : Dist ns) : ∀ (l : List RTree) (args of : List Nat) (m' : Nat), plainAll l = true -> (∀ p ∈ namesAll l, p ∈ ns) -> Hashed th ns of -> travAll ns l of.length = some m' ->
  fitsAll th l args (knOf ns of) = (cfitsAll th ns l args of).map (knOf ns) /\ ∀ of', cfitsAll th ns l args of = some of' -> Hashed th ns of' /\ of'.length = m'
 | [], args, of, m', _, _, hh, ht => by
  simp only [travAll, Option.some.injEq] at ht
  simp only [fitsAll, cfitsAll, Option.map_some]
  exact ⟨trivial, fun of' h => by simp only [Option.some.injEq] at h; subst h; exact ⟨hh, ht⟩⟩
 | t :: l, [], of, m', _, _, _, _ => by
  simp only [fitsAll, cfitsAll]
  exact ⟨rfl, fun of' h => by cases h⟩
 | t :: l, n :: args, of, m', hpl, hm, hh, ht => by
  simp only [plainAll, Bool.and_eq_true] at hpl
  simp only [travAll, Option.bind_eq_some_iff] at ht
  obtain ⟨m1, ht1, ht2⟩ := ht
  obtain ⟨e1, h1⟩ := cfits_fits th ns hd t n of m1 hpl.1 (fun p hp => hm p (by simp [namesAll, hp])) hh ht1
  simp only [fitsAll, cfitsAll]
  rw [e1]
  cases hc : cfits th ns t n of with
  | none => exact ⟨rfl, fun of' h => by cases h⟩
  | some of1 =>
   obtain ⟨h2, h3⟩ := h1 of1 hc
   simp only [Option.map_some, Option.bind_some]
   exact cfitsAll_fits th ns hd l args of1 m' hpl.2 (fun p hp => hm p (by simp [namesAll, hp])) h2 (by rw [h3]; exact ht2)
end
theorem RuleOk.fits {R : CRule} (h : RuleOk R) (th : Nat -> Option Thing) (n : Nat) : fits th R.node n [] = (cfits th R.names R.node n []).map (knOf R.names) := by
 have := (cfits_fits th R.names h.dist R.node n [] R.names.length h.plain (fun p hp => (h.mem p).2 hp) (by intro i x _ v hv; simp at hv) h.trav).1
 have e : knOf R.names [] = [] := by simp [knOf]
 rwa [e] at this
end Code
namespace Code
def NiceT : Thing -> Prop
 | .phi of => of.length <= 100000 /\ ∀ x ∈ of, x < 60
 | .arg k => k < 1000
 | .const c => -2147483648 <= c /\ c < 2147483648
 | .apply k of => k < 13 /\ of.length = opOf k /\ ∀ x ∈ of, x < 60
def NiceL : Last -> Prop
 | .ret v => v < 60
 | .jump b => b < 1000
 | .ifs v x y => v < 60 /\ x < 1000 /\ y < 1000
def NiceV (v : Val) : Prop := v.num < 60 /\ NiceT v.thing
structure NiceB (bks : List Blk) : Prop where
 few : bks.length <= 8
 short : ∀ b ∈ bks, b.values.length <= 1000
 vals : ∀ b ∈ bks, ∀ v ∈ b.values, NiceV v
 lasts : ∀ b ∈ bks, NiceL b.last
def OnceN (bks : List Blk) : Prop := ((bks.flatMap Blk.values).map Val.num).Nodup
theorem nodup_low : ∀ (n : Nat) (l : List Nat), l.Nodup -> (∀ x ∈ l, x < n) -> l.length <= n
 | 0, [], _, _ => Nat.le_refl 0
 | 0, x :: l, _, h => absurd (h x (List.mem_cons_self ..)) (Nat.not_lt_zero x)
 | n + 1, l, hd, h => by
  have h1 := nodup_low n (l.erase n) (hd.erase n) (fun x hx => by
   have h2 := (hd.mem_erase_iff).1 hx
   have := h x h2.2
   have := h2.1
   omega)
  rw [List.length_erase] at h1
  split at h1 <;> omega
theorem nodup_short {l : List Nat} {n : Nat} (h : l.Nodup) (hl : ∀ x ∈ l, x < n) : l.length <= n := nodup_low n l h hl
theorem once_things {l : List Val} (h : (l.map Val.num).Nodup) (n : Nat) : lastThing l n = (l.find? fun v => v.num == n).map Val.thing := by
 unfold lastThing
 congr 1
 induction l with
 | nil => rfl
 | cons v l ih =>
  simp only [List.map_cons, List.nodup_cons] at h
  rw [List.reverse_cons, List.find?_append, ih h.2]
  cases e : (v.num == n) with
  | true =>
   have hn : l.find? (fun v => v.num == n) = none := by
    rw [List.find?_eq_none]
    intro u hu hun
    refine h.1 (List.mem_map.2 ⟨u, hu, ?_⟩)
    simp only [beq_iff_eq] at e hun
    rw [hun, e]
   simp [hn, e]
  | false => simp [e]
def thOf (bks : List Blk) : Nat -> Option Thing := lastThing (bks.flatMap Blk.values)
theorem thOf_things {bks : List Blk} (h : OnceN bks) : thOf bks = things bks := by
 funext n
 exact once_things h n
theorem thOf_mem {bks : List Blk} {n : Nat} {t : Thing} (h : thOf bks n = some t) : ∃ b ∈ bks, ∃ v ∈ b.values, v.num = n /\ v.thing = t := by
 unfold thOf lastThing at h
 simp only [Option.map_eq_some_iff] at h
 obtain ⟨v, hv, rfl⟩ := h
 have h1 := List.mem_of_find?_eq_some hv
 have h2 := List.find?_some hv
 rw [List.mem_reverse, List.mem_flatMap] at h1
 obtain ⟨b, hb, hvb⟩ := h1
 exact ⟨b, hb, v, hvb, by simpa using h2, rfl⟩
theorem NiceB.thOk {bks : List Blk} (h : NiceB bks) : ThOk (thOf bks) := by
 intro n t ht
 obtain ⟨b, hb, v, hv, _, rfl⟩ := thOf_mem ht
 have := (h.vals b hb v hv).2
 cases hvt : v.thing with
 | apply k args => rw [hvt] at this; exact this
 | const c => rw [hvt] at this; exact this
 | phi _ => trivial
 | arg _ => trivial
def fitC (bks : List Blk) (v : Val) (R : CRule) : Option (List Nat) := cfits (thOf bks) R.names R.node v.num []
def rowPairs (fit : CRule -> Bool) (i k : Nat) (rules : List CRule) : List Pair := (rules.filter fit).map fun r => ⟨i, k, r⟩
def valPairs (fit : Val -> CRule -> Bool) (rules : List CRule) (i : Nat) : Nat -> List Val -> List Pair
 | _, [] => []
 | k, v :: l => rowPairs (fit v) i k rules ++ valPairs fit rules i (k + 1) l
def blkPairs (fit : Val -> CRule -> Bool) (rules : List CRule) : Nat -> List Blk -> List Pair
 | _, [] => []
 | i, b :: l => valPairs fit rules i 0 b.values ++ blkPairs fit rules (i + 1) l
theorem rowPairs_take (fit : CRule -> Bool) (i k : Nat) {rules : List CRule} {m : Nat} {r : CRule} (h : rules[m]? = some r) : rowPairs fit i k (rules.take (m + 1)) = rowPairs fit i k (rules.take m) ++ if fit r = true then [⟨i, k, r⟩] else [] := by
 obtain ⟨hm, hr⟩ := List.getElem?_eq_some_iff.1 h
 unfold rowPairs
 rw [List.take_succ_eq_append_getElem hm, List.filter_append, List.map_append, hr]
 congr 1
 rw [List.filter_cons]
 split <;> rfl
theorem valPairs_app (fit : Val -> CRule -> Bool) (rules : List CRule) (i : Nat) : ∀ (a b : List Val) (k : Nat), valPairs fit rules i k (a ++ b) = valPairs fit rules i k a ++ valPairs fit rules i (k + a.length) b
 | [], b, k => by simp [valPairs]
 | v :: a, b, k => by
  simp only [List.cons_append, valPairs, valPairs_app fit rules i a b, List.append_assoc, List.length_cons]
  rw [show k + 1 + a.length = k + (a.length + 1) by omega]
theorem valPairs_take (fit : Val -> CRule -> Bool) (rules : List CRule) (i : Nat) {l : List Val} {k : Nat} {v : Val} (h : l[k]? = some v) : valPairs fit rules i 0 (l.take (k + 1)) = valPairs fit rules i 0 (l.take k) ++ rowPairs (fit v) i k rules := by
 obtain ⟨hk, hv⟩ := List.getElem?_eq_some_iff.1 h
 rw [List.take_succ_eq_append_getElem hk, valPairs_app, hv]
 simp only [valPairs, List.append_nil, Nat.zero_add, List.length_take]
 rw [Nat.min_eq_left (by omega)]
theorem blkPairs_app (fit : Val -> CRule -> Bool) (rules : List CRule) : ∀ (a b : List Blk) (k : Nat), blkPairs fit rules k (a ++ b) = blkPairs fit rules k a ++ blkPairs fit rules (k + a.length) b
 | [], b, k => by simp [blkPairs]
 | v :: a, b, k => by
  simp only [List.cons_append, blkPairs, blkPairs_app fit rules a b, List.append_assoc, List.length_cons]
  rw [show k + 1 + a.length = k + (a.length + 1) by omega]
theorem blkPairs_take (fit : Val -> CRule -> Bool) (rules : List CRule) {l : List Blk} {k : Nat} {v : Blk} (h : l[k]? = some v) : blkPairs fit rules 0 (l.take (k + 1)) = blkPairs fit rules 0 (l.take k) ++ valPairs fit rules k 0 v.values := by
 obtain ⟨hk, hv⟩ := List.getElem?_eq_some_iff.1 h
 rw [List.take_succ_eq_append_getElem hk, blkPairs_app, hv]
 simp only [blkPairs, List.append_nil, Nat.zero_add, List.length_take]
 rw [Nat.min_eq_left (by omega)]
theorem rowPairs_le (fit : CRule -> Bool) (i k : Nat) (rules : List CRule) : (rowPairs fit i k rules).length <= rules.length := by
 unfold rowPairs
 rw [List.length_map]
 exact List.length_filter_le _ _
theorem valPairs_le (fit : Val -> CRule -> Bool) (rules : List CRule) (i : Nat) : ∀ (l : List Val) (k : Nat), (valPairs fit rules i k l).length <= l.length * rules.length
 | [], k => by simp [valPairs]
 | v :: l, k => by
  simp only [valPairs, List.length_append, List.length_cons]
  have := rowPairs_le (fit v) i k rules
  have := valPairs_le fit rules i l (k + 1)
  rw [Nat.succ_mul]; omega
theorem blkPairs_le (fit : Val -> CRule -> Bool) (rules : List CRule) : ∀ (l : List Blk) (k : Nat), (∀ b ∈ l, b.values.length <= 1000) -> (blkPairs fit rules k l).length <= l.length * (1000 * rules.length)
 | [], k, _ => by simp [blkPairs]
 | v :: l, k, h => by
  simp only [blkPairs, List.length_append, List.length_cons]
  have h1 := valPairs_le fit rules k v.values 0
  have h2 := blkPairs_le fit rules l (k + 1) (fun b hb => h b (List.mem_cons_of_mem _ hb))
  have h3 : v.values.length * rules.length <= 1000 * rules.length := Nat.mul_le_mul_right _ (h v (List.mem_cons_self ..))
  rw [Nat.succ_mul]; omega
def pairsC (rules : List CRule) (bks : List Blk) : List Pair := blkPairs (fun v r => (fitC bks v r).isSome) rules 0 bks
theorem valPairs_old (bks : List Blk) (rules : List CRule) (i : Nat) : ∀ (l : List Val) (k : Nat), valPairs (fitsAt bks) rules i k l = pairsV bks rules i k l
 | [], k => rfl
 | v :: l, k => by rw [valPairs, pairsV, valPairs_old bks rules i l]; rfl
theorem blkPairs_old (bks : List Blk) (rules : List CRule) : ∀ (l : List Blk) (i : Nat), blkPairs (fitsAt bks) rules i l = pairsB bks rules i l
 | [], i => rfl
 | b :: l, i => by rw [blkPairs, pairsB, blkPairs_old bks rules l, valPairs_old]
theorem rowPairs_same {f g : CRule -> Bool} {rules : List CRule} (h : ∀ r ∈ rules, f r = g r) (i k : Nat) : rowPairs f i k rules = rowPairs g i k rules := by
 unfold rowPairs
 rw [List.filter_congr h]
theorem valPairs_same {f g : Val -> CRule -> Bool} {rules : List CRule} (h : ∀ v, ∀ r ∈ rules, f v r = g v r) (i : Nat) : ∀ (l : List Val) (k : Nat), valPairs f rules i k l = valPairs g rules i k l
 | [], k => rfl
 | v :: l, k => by rw [valPairs, valPairs, valPairs_same h i l, rowPairs_same (h v)]
theorem blkPairs_same {f g : Val -> CRule -> Bool} {rules : List CRule} (h : ∀ v, ∀ r ∈ rules, f v r = g v r) : ∀ (l : List Blk) (k : Nat), blkPairs f rules k l = blkPairs g rules k l
 | [], k => rfl
 | v :: l, k => by rw [blkPairs, blkPairs, blkPairs_same h l, valPairs_same h]
theorem fitC_fits {bks : List Blk} (h : OnceN bks) {R : CRule} (hR : RuleOk R) (v : Val) : fits (things bks) R.node v.num [] = (fitC bks v R).map (knOf R.names) := by
 rw [<- thOf_things h]
 exact hR.fits _ _
theorem pairsC_is {bks : List Blk} (h : OnceN bks) {rules : List CRule} (hr : ∀ R ∈ rules, RuleOk R) : pairsC rules bks = pairs rules bks := by
 unfold pairsC pairs
 rw [<- blkPairs_old]
 refine blkPairs_same (fun v r hm => ?_) _ _
 unfold fitsAt
 rw [fitC_fits h (hr r hm)]
 cases fitC bks v r <;> rfl
theorem opName_len (k : Nat) : (opName k).length <= 10 := by
 unfold opName
 match k with
 | 0 | 1 | 2 | 3 | 4 | 5 | 6 | 7 | 8 | 9 | 10 | 11 | 12 => decide
 | n + 13 => simp [ops]
theorem numb1_len (mark : List UInt8) (x : Nat) (h : x < 1000) : (numb mark [(x : Int)]).length <= mark.length + 21 := by
 have := numb_len mark [(x : Int)] (by intro n hn; simp only [List.mem_cons, List.not_mem_nil, or_false] at hn; subst hn; omega)
 simpa using this
theorem numbs_len (mark : List UInt8) (l : List Nat) (h : ∀ x ∈ l, x < 60) : (numb mark (ofNats l)).length <= l.length * (mark.length + 21) := by
 have := numb_len mark (ofNats l) (by
  intro n hn
  obtain ⟨x, hx, rfl⟩ := List.mem_map.1 hn
  have := h x hx
  have e : Int.ofNat x = (x : Int) := rfl
  omega)
 simpa [ofNats] using this
theorem wrT_len {t : Thing} (h : NiceT t) : (wrT t).length <= 2400000 := by
 cases t with
 | phi of =>
  have h1 := numbs_len [32, 118] of h.2
  have h2 := h.1
  simp only [wrT, List.length_append, List.length_cons, List.length_nil] at *
  omega
 | arg k =>
  have h1 := numb1_len [97, 114, 103, 32] k h
  simp only [wrT, List.length_cons, List.length_nil] at *
  omega
 | const c =>
  have h1 := numb_len [99, 111, 110, 115, 116, 32] [c] (by
   intro n hn
   simp only [List.mem_cons, List.not_mem_nil, or_false] at hn
   subst hn
   have : -2147483648 <= n /\ n < 2147483648 := h
   omega)
  simp only [wrT, List.length_cons, List.length_nil] at *
  omega
 | apply k of =>
  have h1 := numbs_len [32, 118] of h.2.2
  have h2 := h.2.1
  have h3 := opOf_range k h.1
  have h4 := opName_len k
  simp only [wrT, List.length_append, List.length_cons, List.length_nil] at *
  omega
theorem wrV_len {v : Val} (h : NiceV v) : (wrV v).length <= 2400100 := by
 have h1 := wrT_len h.2
 have h2 := numb1_len [118] v.num (by have := h.1; omega)
 simp only [wrV, List.length_append, List.length_cons, List.length_nil] at *
 omega
theorem wrL_len {z : Last} (h : NiceL z) : (wrL z).length <= 1000 := by
 cases z with
 | ret v =>
  have h1 := numb1_len [32, 118] v (by have : v < 60 := h; omega)
  simp only [wrL, List.length_append, List.length_cons, List.length_nil] at *
  omega
 | jump b =>
  have h1 := numb1_len [32, 98] b h
  simp only [wrL, List.length_append, List.length_cons, List.length_nil] at *
  omega
 | ifs v x y =>
  have h1 := numb1_len [32, 118] v (by have : v < 60 := h.1; omega)
  have h2 := numb_len [32, 98] [(x : Int), (y : Int)] (by
   intro n hn
   have hx : x < 1000 := h.2.1
   have hy : y < 1000 := h.2.2
   simp only [List.mem_cons, List.not_mem_nil, or_false] at hn
   rcases hn with rfl | rfl <;> omega)
  simp only [wrL, List.length_append, List.length_cons, List.length_nil] at *
  omega
theorem flat_len {α : Type} {β : Type} (f : α -> List β) (c : Nat) : ∀ (l : List α), (∀ x ∈ l, (f x).length <= c) -> (l.flatMap f).length <= l.length * c
 | [], _ => by simp
 | x :: l, h => by
  rw [List.flatMap_cons, List.length_append, List.length_cons, Nat.succ_mul]
  have := h x (List.mem_cons_self ..)
  have := flat_len f c l (fun y hy => h y (List.mem_cons_of_mem _ hy))
  omega
theorem wrBs_len : ∀ (l : List Blk) (i : Nat), i + l.length <= 1000 -> (∀ b ∈ l, b.values.length <= 1000) -> (∀ b ∈ l, ∀ v ∈ b.values, NiceV v) -> (∀ b ∈ l, NiceL b.last) -> (wrBs i l).length <= l.length * 3000000000
 | [], _, _, _, _, _ => by simp [wrBs]
 | b :: l, i, hi, h1, h2, h3 => by
  simp only [List.length_cons] at hi
  have ih := wrBs_len l (i + 1) (by omega) (fun x hx => h1 x (List.mem_cons_of_mem _ hx)) (fun x hx => h2 x (List.mem_cons_of_mem _ hx)) (fun x hx => h3 x (List.mem_cons_of_mem _ hx))
  have a1 := h1 b (List.mem_cons_self ..)
  have a2 := flat_len wrV 2400100 b.values (fun v hv => wrV_len (h2 b (List.mem_cons_self ..) v hv))
  have a3 := wrL_len (h3 b (List.mem_cons_self ..))
  have a4 := numb1_len [98] i (by omega)
  simp only [wrBs, wrBk, List.length_append, List.length_cons, List.length_nil] at *
  omega
theorem NiceB.text {bks : List Blk} (h : NiceB bks) {args : Nat} (ha : args < 1000) : (wrF args bks).length <= 100000000000 := by
 have h1 := wrBs_len bks 0 (by have := h.few; omega) h.short h.vals h.lasts
 have h2 := numb1_len [102, 117, 110, 99, 32] args ha
 have h3 := h.few
 simp only [wrF, List.length_append, List.length_cons, List.length_nil] at *
 omega
def pickN (picks : List Int) (k n : Nat) : Nat := match picks[k]? with
 | none => 0
 | some p => (p % (n : Int)).toNat
end Code
theorem renamed_any (n a b : Nat) (w : World) :
  Calls Tryz.prog 210 #[.int .i64 (n : Nat), .int .i64 (a : Nat), .int .i64 (b : Nat)] w fun e w' => e = .returned (.int .i64 (Code.renN a b n : Nat)) /\ w' = w := by
 by_cases h : n = a
 ·have HR : Hid (Code.renN a b n = b) := by simp [Hid, Code.renN, h]
  subst h
  go_enter Tryz.func210, Tryz.ntmps210
  go_wp2
  go_ret
  exact ⟨ret_int (by rw [HR.out]), rfl⟩
 ·have HR : Hid (Code.renN a b n = n) := by simp [Hid, Code.renN, h]
  have h1 : ((n : Int) == (a : Int)) = false := beq_eq_false_iff_ne.2 (by omega)
  have h2 : (n == a) = false := beq_eq_false_iff_ne.2 h
  have h3 : ¬ (n : Int) = (a : Int) := by omega
  go_enter Tryz.func210, Tryz.ntmps210
  go_wp2
  go_ret
  exact ⟨ret_int (by rw [HR.out]), rfl⟩
theorem ren_set (a b : Nat) (l : List Nat) (j : Nat) (h : j < l.length) : ((l.take j).map (Code.renN a b) ++ List.replicate (l.length - j) 0).set j (Code.renN a b l[j]) = (l.take (j + 1)).map (Code.renN a b) ++ List.replicate (l.length - (j + 1)) 0 := by
 rw [show l.length - j = (l.length - (j + 1)) + 1 by omega, List.replicate_succ, List.set_append_right _ _ (by simp; omega)]
 have hl : j - ((l.take j).map (Code.renN a b)).length = 0 := by simp; omega
 rw [hl, List.take_add_one, List.getElem?_eq_getElem h, List.map_append, List.append_assoc]
 rfl
theorem renamedAll_any (l : List Nat) (v : Value) (a b base : Nat) (w : World) (hv : w.ownsRow base 3 1 v l.length (nats l)) (hl : l.length <= 100000) :
  Calls Tryz.prog 209 #[v, .int .i64 (a : Nat), .int .i64 (b : Nat)] w fun e w' => ∃ r, e = .returned r /\ w'.ownsRow 0 3 1 r (l.map (Code.renN a b)).length (nats (l.map (Code.renN a b))) /\ Below w.heap.size w w' := by
 obtain ⟨i0, hi, hi0, hi1, hi2⟩ := info_parts infoInt
 obtain ⟨p, c, rfl⟩ := own_slice hv
 have HV := hide hv
 clear hv
 go_enter Tryz.func209, Tryz.ntmps209
 go_wp2_with (first | (at_make; refine wpList_make_full _ rfl _ _ 31 rfl w.heap.size 3 i0 (.int .i64 0) 1 Tryz.underlying31 hi hi0 hi1 .i64 .i64 _ _ l.length rfl rfl rfl rfl (by rw [hi2]; omega) (by unfold maxLen; omega) (by simp) ?_; intro w2 hown2 hgrow2; have hnr2 := natRow_made hown2))
 have hb2 : Below w.heap.size w w2 := ⟨hgrow2.os, hgrow2.tape, hgrow2.output, hgrow2.size, fun k hk => hgrow2.block k (by omega) (by simp)⟩
 clear hown2 hgrow2
 go_loopw [15] (fun i wr => ∃ j : Nat, j <= l.length /\ i = .int .i64 j /\ natRow wr w.heap.size ((l.take j).map (Code.renN a b) ++ List.replicate (l.length - j) 0) /\ Below w.heap.size w wr) (fun i _ => l.length - (intOf i).toNat)
 case atStart => exact ⟨0, by omega, rfl, by simpa using hnr2, hb2⟩
 case round =>
  obtain ⟨j, hj, rfl, hnr, hbw⟩ := hrel
  clear hnr2 hb2
  have hz := hbw.size
  by_cases hlt : j < l.length
  ·obtain ⟨p', c', hpe, hcell⟩ := nats_open (own_below HV.out hbw)
   simp only [Value.slice.injEq] at hpe
   obtain ⟨rfl, _, rfl⟩ := hpe
   obtain ⟨g, rfl, e0⟩ := hcell j hlt
   have HS := hide (ren_set a b l j hlt)
   obtain ⟨u, hc⟩ : ∃ u, wr.cell? ⟨w.heap.size, j, none⟩ = some u := ⟨_, hnr.cell j (by simp; omega)⟩
   have hfz := blk_froz hnr j
   have HRN := hide (renamed_any l[j] a b)
   have hjl : (j : Int) < (l.length : Int) := by omega
   generalize l[j] = x at *
   generalize Code.renN a b x = y at *
   clear hcell
   go_wp2_with fail
   refine (HRN.out _).mono ?_
   rintro e w3 ⟨rfl, rfl⟩
   go_wp2
   exact ⟨⟨j + 1, by omega, by go_num, by rw [<- HS.out]; exact hnr.set _ _, below_set hbw (Nat.le_refl _) _ _⟩, by simp [intOf]; omega⟩
  ·have hjl : j = l.length := by omega
   subst hjl
   rw [List.take_length, Nat.sub_self, List.replicate_zero, List.append_nil] at hnr
   have HO := hide (hnr.own (Nat.zero_le _) (by simp [maxLen]; omega))
   rw [List.length_map] at HO
   clear hnr
   go_wp2
   go_ret
   exact ⟨_, rfl, by rw [List.length_map]; exact HO.out, hbw⟩
def shortT : Code.Thing -> Prop
 | .phi of => of.length <= 100000
 | .apply _ of => of.length <= 100000
 | _ => True
theorem renamedThing_any (t : Code.Thing) (v : Value) (a b : Nat) (w : World) (hv : ThingV w 0 t v) (hs : shortT t) :
  Calls Tryz.prog 172 #[v, .int .i64 (a : Nat), .int .i64 (b : Nat)] w fun e w' => ∃ r, e = .returned r /\ ThingV w' 0 (Code.renT a b t) r /\ Below w.heap.size w w' := by
 cases t with
 | phi of =>
  obtain ⟨r, rfl, hr⟩ := hv
  have HA : Hid (∀ w1, Below w.heap.size w w1 -> Calls Tryz.prog 209 #[r, .int .i64 (a : Nat), .int .i64 (b : Nat)] w1 fun e w' => ∃ r, e = .returned r /\ w'.ownsRow 0 3 1 r (of.map (Code.renN a b)).length (nats (of.map (Code.renN a b))) /\ Below w1.heap.size w1 w') := hide fun w1 h1 => renamedAll_any of r a b 0 w1 (own_below hr h1) hs
  obtain ⟨p, c, rfl⟩ := own_slice hr
  have t1 := isPhi_phi
  clear hr hs
  go_enter Tryz.func172, Tryz.ntmps172
  go_wp2_with fail
  generalize hw0 : w.alloc _ = w0
  have hb0 : Below w.heap.size w w0 := by rw [<- hw0]; exact below_al (Below.refl _ _) _
  clear hw0
  refine (HA.out w0 hb0).mono ?_
  rintro e w1 ⟨r, rfl, hro, hb1⟩
  have HRO := hide hro
  obtain ⟨p1, c1, rfl⟩ := own_slice hro
  clear hro
  have hbw1 : Below w.heap.size w w1 := hb0.trans (hb1.mono hb0.size)
  go_wp2
  go_ret
  exact ⟨_, rfl, ⟨_, rfl, by have h := HRO.out; simp only [List.length_map] at h ⊢; exact h⟩, hbw1⟩
 | arg n =>
  have hv' : v = _ := hv
  subst hv'
  have t1 := isPhi_arg
  have t2 := isApply_arg
  clear hv hs
  go_enter Tryz.func172, Tryz.ntmps172
  go_wp2
  go_ret
  exact ⟨_, rfl, rfl, Below.refl _ _⟩
 | const n =>
  have hv' : v = _ := hv
  subst hv'
  have t1 := isPhi_const
  have t2 := isApply_const
  clear hv hs
  go_enter Tryz.func172, Tryz.ntmps172
  go_wp2
  go_ret
  exact ⟨_, rfl, rfl, Below.refl _ _⟩
 | apply k of =>
  obtain ⟨r, rfl, hr⟩ := hv
  have HA : Hid (∀ w1, Below w.heap.size w w1 -> Calls Tryz.prog 209 #[r, .int .i64 (a : Nat), .int .i64 (b : Nat)] w1 fun e w' => ∃ r, e = .returned r /\ w'.ownsRow 0 3 1 r (of.map (Code.renN a b)).length (nats (of.map (Code.renN a b))) /\ Below w1.heap.size w1 w') := hide fun w1 h1 => renamedAll_any of r a b 0 w1 (own_below hr h1) hs
  obtain ⟨p, c, rfl⟩ := own_slice hr
  have t1 := isPhi_apply
  have t2 := isApply_apply
  clear hr hs
  go_enter Tryz.func172, Tryz.ntmps172
  go_wp2_with fail
  generalize hw0 : w.alloc _ = w0
  have hb0 : Below w.heap.size w w0 := by rw [<- hw0]; exact below_al (Below.refl _ _) _
  have hx0 : w0.heap[w.heap.size]? = some (.cells #[.int .i64 (k : Nat), .slice p of.length c] 238) := by rw [<- hw0]; exact heap_alloc_new w _
  clear hw0
  have c0 : ∀ w', Below w0.heap.size w0 w' -> w'.cell? ⟨w.heap.size, 0, none⟩ = some (.int .i64 (k : Nat)) := fun w' h => blk_cell ((h.block _ (lt_of_block hx0)).trans hx0) 0 _ rfl
  have c1 : ∀ w', Below w0.heap.size w0 w' -> w'.cell? ⟨w.heap.size, 1, none⟩ = some (.slice p of.length c) := fun w' h => blk_cell ((h.block _ (lt_of_block hx0)).trans hx0) 1 _ rfl
  go_region_held3 (fun w' => Below w0.heap.size w0 w') (first | assumption | (repeat' (first | assumption | exact Below.refl _ _ | apply Below.drew))) (first | (go_at_call 209; refine (HA.out _ hb0.drew).mono ?_; rintro e w1 ⟨r, rfl, hro, hb1'⟩; have hb1 : Below w0.heap.size w0 w1 := undrewB hb1'; have HRO := hide hro; obtain ⟨p1, c1', rfl⟩ := own_slice hro; clear hro))
  have hbw1 : Below w.heap.size w w1 := hb0.trans (hb1.mono hb0.size)
  go_wp2
  go_ret
  exact ⟨_, rfl, ⟨_, rfl, by have h := HRO.out; simp only [List.length_map] at h ⊢; exact h⟩, hbw1⟩
theorem renamedLast_any (z : Code.Last) (a b : Nat) (w : World) :
  Calls Tryz.prog 173 #[lastV z, .int .i64 (a : Nat), .int .i64 (b : Nat)] w fun e w' => e = .returned (lastV (Code.renL a b z)) /\ Below w.heap.size w w' := by
 cases z with
 | ret n =>
  have t1 := isRet_ret
  have HRN := hide (renamed_any n a b)
  unfold lastV Code.renL
  go_enter Tryz.func173, Tryz.ntmps173
  go_wp2_with fail
  refine (HRN.out _).mono ?_
  rintro e w3 ⟨rfl, rfl⟩
  go_wp2
  go_ret
  exact ⟨rfl, below_al (Below.refl _ _) _⟩
 | jump n =>
  have t1 := isRet_jump
  have t2 := isIf_jump
  unfold lastV Code.renL
  go_enter Tryz.func173, Tryz.ntmps173
  go_wp2
  go_ret
  exact ⟨rfl, Below.refl _ _⟩
 | ifs n x y =>
  have t1 := isRet_if
  have t2 := isIf_if
  have HRN := hide (renamed_any n a b)
  unfold lastV Code.renL
  go_enter Tryz.func173, Tryz.ntmps173
  go_wp2_with fail
  generalize hw0 : w.alloc _ = w0
  have hb0 : Below w.heap.size w w0 := by rw [<- hw0]; exact below_al (Below.refl _ _) _
  have hx0 : w0.heap[w.heap.size]? = some (.cells #[.int .i64 (n : Nat), .int .i64 (x : Nat), .int .i64 (y : Nat)] 244) := by rw [<- hw0]; exact heap_alloc_new w _
  clear hw0
  have c0 : ∀ w', Below w0.heap.size w0 w' -> w'.cell? ⟨w.heap.size, 0, none⟩ = some (.int .i64 (n : Nat)) := fun w' h => blk_cell ((h.block _ (lt_of_block hx0)).trans hx0) 0 _ rfl
  have c1 : ∀ w', Below w0.heap.size w0 w' -> w'.cell? ⟨w.heap.size, 1, none⟩ = some (.int .i64 (x : Nat)) := fun w' h => blk_cell ((h.block _ (lt_of_block hx0)).trans hx0) 1 _ rfl
  have c2 : ∀ w', Below w0.heap.size w0 w' -> w'.cell? ⟨w.heap.size, 2, none⟩ = some (.int .i64 (y : Nat)) := fun w' h => blk_cell ((h.block _ (lt_of_block hx0)).trans hx0) 2 _ rfl
  go_region_held3 (fun w' => Below w0.heap.size w0 w') (first | assumption | (repeat' (first | assumption | exact Below.refl _ _ | apply Below.drew))) (first | (go_at_call 210; refine (HRN.out _).mono ?_; rintro e w1 ⟨rfl, rfl⟩))
  go_wp2
  go_ret
  exact ⟨rfl, hb0.drew⟩
end Go.Proofs.YtedkjanogjglkaaGreatDoor
