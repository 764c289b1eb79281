/-
  Parts of the proof: CWeight, RPlain, RPlain2, RState, RSame, RSame2, RwPlain, RTextP.
-/
import Derived.Test.YtedkjanogjglkaaGreatDoorP10
import Derived.Lib.ItoaNum
import Derived.Lib.ItoaLen
set_option maxRecDepth 100000
set_option maxHeartbeats 4000000
namespace Go.Proofs.YtedkjanogjglkaaGreatDoor
open Go.RowKit
namespace Code
def opW (k : Nat) : Int := (ops.getD k ([], 0, 0)).2.2
def weightT : Thing -> Int
 | .const _ => 1
 | .apply k _ => opW k
 | _ => 0
def sumV (l : List Val) : Int := l.foldl (fun n v => n + weightT v.thing) 0
def sumB (l : List Blk) : Int := l.foldl (fun n b => n + sumV b.values) 0
theorem opW_range (k : Nat) : 0 <= opW k /\ opW k <= 20 := by
 by_cases h : k < 13
 ·match k, h with
  | 0, _ | 1, _ | 2, _ | 3, _ | 4, _ | 5, _ | 6, _ | 7, _ | 8, _ | 9, _ | 10, _ | 11, _ | 12, _ => decide
 ·unfold opW
  rw [List.getD_eq_getElem?_getD, List.getElem?_eq_none (by show 13 <= k; omega)]
  decide
theorem weightT_range (t : Thing) : 0 <= weightT t /\ weightT t <= 20 := by
 cases t with
 | apply k _ => exact opW_range k
 | phi of => show (0 : Int) <= 0 /\ (0 : Int) <= 20; decide
 | arg n => show (0 : Int) <= 0 /\ (0 : Int) <= 20; decide
 | const n => show (0 : Int) <= 1 /\ (1 : Int) <= 20; decide
theorem sumV_from (l : List Val) : ∀ n : Int, l.foldl (fun n v => n + weightT v.thing) n = n + sumV l := by
 unfold sumV
 induction l with
 | nil => intro n; simp
 | cons v l ih => intro n; simp only [List.foldl_cons]; rw [ih, ih (0 + _)]; omega
theorem sumV_cons (v : Val) (l : List Val) : sumV (v :: l) = weightT v.thing + sumV l := by
 show (v :: l).foldl _ 0 = _
 rw [List.foldl_cons, sumV_from]; omega
theorem sumB_from (l : List Blk) : ∀ n : Int, l.foldl (fun n b => n + sumV b.values) n = n + sumB l := by
 unfold sumB
 induction l with
 | nil => intro n; simp
 | cons v l ih => intro n; simp only [List.foldl_cons]; rw [ih, ih (0 + _)]; omega
theorem sumB_cons (b : Blk) (l : List Blk) : sumB (b :: l) = sumV b.values + sumB l := by
 show (b :: l).foldl _ 0 = _
 rw [List.foldl_cons, sumB_from]; omega
theorem sumV_range (l : List Val) : 0 <= sumV l /\ sumV l <= 20 * l.length := by
 induction l with
 | nil => exact ⟨Int.le_refl _, Int.le_refl _⟩
 | cons v l ih =>
  rw [sumV_cons]
  have := weightT_range v.thing
  simp only [List.length_cons]; omega
theorem sumB_range (l : List Blk) (h : ∀ b ∈ l, b.values.length <= 100000) : 0 <= sumB l /\ sumB l <= 2000000 * l.length := by
 induction l with
 | nil => exact ⟨Int.le_refl _, Int.le_refl _⟩
 | cons b l ih =>
  rw [sumB_cons]
  have := sumV_range b.values
  have := ih (fun x hx => h x (List.mem_cons_of_mem _ hx))
  have := h b List.mem_cons_self
  simp only [List.length_cons]; omega
theorem sumV_snoc (l : List Val) (k : Nat) (h : k < l.length) : sumV (l.take (k + 1)) = sumV (l.take k) + weightT l[k].thing := by
 unfold sumV
 rw [List.take_add_one, List.getElem?_eq_getElem h, List.foldl_append]
 rfl
theorem sumB_snoc (l : List Blk) (k : Nat) (h : k < l.length) : sumB (l.take (k + 1)) = sumB (l.take k) + sumV l[k].values := by
 unfold sumB
 rw [List.take_add_one, List.getElem?_eq_getElem h, List.foldl_append]
 rfl
end Code
theorem opCells_w (k : Nat) (h : k < 13) : opCells[k * 3 + 2]? = some (.int .i64 (Code.opW k)) := by
 match k, h with
 | 0, _ | 1, _ | 2, _ | 3, _ | 4, _ | 5, _ | 6, _ | 7, _ | 8, _ | 9, _ | 10, _ | 11, _ | 12, _ => rfl
theorem opW_any (k : Nat) (w : World) (hk : k < 13) (ht : Tab w) :
  Calls Tryz.prog 134 #[.int .i64 (k : Nat)] w fun e w' => e = .returned (.int .i64 (Code.opW k)) /\ w' = w := by
 have hc := ht _ _ (opCells_w k hk)
 rw [Nat.zero_add] at hc
 have hk' : (k : Int) < 13 := by omega
 go_enter Tryz.func134, Tryz.ntmps134
 go_wp2
 go_ret
 exact ⟨rfl, rfl⟩
theorem isConst_phi (v : Value) (w : World) : (Instr.typeAssert (.iface 232 v) 167 236 true).run Tryz.prog w = .ok (.tuple #[.agg #[.int .i32 0], .bool false]) w := by kernel_rfl
theorem isConst_arg (v : Value) (w : World) : (Instr.typeAssert (.iface 234 v) 167 236 true).run Tryz.prog w = .ok (.tuple #[.agg #[.int .i32 0], .bool false]) w := by kernel_rfl
theorem weightT_any (y : Code.Thing) (v : Value) (base : Nat) (w : World) (ht : Tab w) (hk : ∀ k of, y = .apply k of -> k < 13) (hy : ThingV w base y v) :
  Calls Tryz.prog 85 #[v] w fun e w' => e = .returned (.int .i64 (Code.weightT y)) /\ Below w.heap.size w w' := by
 cases y with
 | phi of =>
  obtain ⟨r, rfl, hr⟩ := hy
  obtain ⟨p, c, rfl⟩ := own_slice hr
  have h1 := isApply_phi
  have h2 := isConst_phi
  go_enter Tryz.func85, Tryz.ntmps85
  go_wp2
  go_ret
  exact ⟨rfl, Below.refl _ _⟩
 | arg n =>
  have hy' : v = _ := hy
  subst hy'
  have h1 := isApply_arg
  have h2 := isConst_arg
  go_enter Tryz.func85, Tryz.ntmps85
  go_wp2
  go_ret
  exact ⟨rfl, Below.refl _ _⟩
 | const n =>
  have hy' : v = _ := hy
  subst hy'
  have h1 := isApply_const
  have h2 := isConst_const
  go_enter Tryz.func85, Tryz.ntmps85
  go_wp2
  go_ret
  exact ⟨rfl, below_al (Below.refl _ _) _⟩
 | apply k of =>
  obtain ⟨r, rfl, hr⟩ := hy
  obtain ⟨p, c, rfl⟩ := own_slice hr
  have h1 := isApply_apply
  have h2 := isConst_apply
  have hk' := hk k of rfl
  have HT := hide ht
  clear hk ht
  go_enter Tryz.func85, Tryz.ntmps85
  go_wp2_with fail
  generalize hw0 : w.alloc _ = w0
  have hb0 : Below w.heap.size w w0 := by rw [<- hw0]; exact below_al (Below.refl _ _) _
  clear hw0
  refine (opW_any k w0 hk' (HT.out.below hb0)).mono ?_
  rintro e w1 ⟨rfl, rfl⟩
  go_wp2
  go_ret
  exact ⟨rfl, hb0⟩
theorem weightF_any (args : Nat) (bks : List Code.Blk) (p : Option Addr) (c : Nat) (base : Nat) (w : World) (ht : Tab w) (hf : RepBlks w base (.slice p bks.length c) bks) (hn : bks.length <= 8) (hl : ∀ b ∈ bks, b.values.length <= 100000) (hk : ∀ b ∈ bks, ∀ v ∈ b.values, ∀ k of, v.thing = .apply k of -> k < 13) :
  Calls Tryz.prog 41 #[.agg #[.int .i64 (args : Nat), .slice p bks.length c]] w fun e w' => e = .returned (.int .i64 (Code.sumB bks)) /\ Below w.heap.size w w' := by
 have HF := hide hf
 have HT := hide ht
 have HL := hide hl
 have HK := hide hk
 obtain ⟨p', c', hpe, hblk⟩ := hf.open
 simp only [Value.slice.injEq] at hpe
 obtain ⟨rfl, _, rfl⟩ := hpe
 have HBLK := hide hblk
 clear hblk hf ht hl hk
 go_enter Tryz.func41, Tryz.ntmps41
 go_wp2
 generalize hw0 : w.alloc _ = w0
 have hb0 : Below w.heap.size w w0 := by rw [<- hw0]; exact below_al (Below.refl _ _) _
 clear hw0
 go_loopw [3, 11] (fun n i wr => ∃ j : Nat, j <= bks.length /\ i = .int .i64 j /\ n = .int .i64 (Code.sumB (bks.take j)) /\ Below w.heap.size w wr) (fun _ i _ => bks.length - (intOf i).toNat)
 case atStart => exact ⟨0, by omega, rfl, rfl, hb0⟩
 case round =>
  obtain ⟨j, hj, rfl, rfl, hbw⟩ := hrel
  clear hb0
  have hz := hbw.size
  by_cases hlt : j < bks.length
  ·obtain ⟨g, vs, rfl, hg, c0, c1, hvs⟩ := HBLK.out j hlt
   have hlen := HL.out bks[j] (List.getElem_mem hlt)
   have HKJ := hide (HK.out bks[j] (List.getElem_mem hlt))
   obtain ⟨pv, cv, rfl, hval⟩ := hvs.open
   have c0' := bcell' hbw g _ hg _ c0
   obtain ⟨T, zv, hzv⟩ := lastV_shape bks[j].last
   rw [hzv] at c1
   have c1' := bcell' hbw g _ hg _ c1
   have HSN := hide (Code.sumB_snoc bks j hlt)
   have hr1 := Code.sumB_range (bks.take j) (fun b hb => HL.out b (List.mem_of_mem_take hb))
   have hr1' : (bks.take j).length <= 8 := by rw [List.length_take]; omega
   generalize bks[j].values = vals at *
   have HV := hide hval
   clear hval c0 c1 hvs hzv
   generalize Code.sumB (bks.take j) = s0 at *
   go_wp2_with fail
   generalize hw3 : wr.alloc _ = w3
   have hb3 : Below w.heap.size w w3 := by rw [<- hw3]; exact below_al hbw _
   clear hw3 c0' c1'
   rename World => wo
   go_loopw [3, 18] (fun n i ws => ∃ k : Nat, k <= vals.length /\ i = .int .i64 k /\ n = .int .i64 (s0 + Code.sumV (vals.take k)) /\ Below w.heap.size w ws) (fun _ i _ => vals.length - (intOf i).toNat)
   case atStart => exact ⟨0, by omega, rfl, by show _ = Value.int .i64 (s0 + 0); rw [Int.add_zero], hb3⟩
   case round =>
    obtain ⟨k, hk, rfl, rfl, hbs⟩ := hrel
    clear hb3
    have hzs := hbs.size
    by_cases hkt : k < vals.length
    ·obtain ⟨g2, th, rfl, hg2, d0, d1, hth⟩ := HV.out k hkt
     have d0' := bcell' hbs g2 _ hg2 _ d0
     have d1' := bcell' hbs g2 _ hg2 _ d1
     have HW : Hid (∀ w', Below w.heap.size w w' -> Calls Tryz.prog 85 #[th] w' fun e w'' => e = .returned (.int .i64 (Code.weightT vals[k].thing)) /\ Below w'.heap.size w' w'') := hide fun w' h =>
      weightT_any vals[k].thing th base w' (HT.out.below h) (HKJ.out vals[k] (List.getElem_mem hkt)) (hth.mono (fun _ _ _ h' => own_below h' h))
     obtain ⟨T', tv, rfl⟩ := hth.shape
     have HS := hide (Code.sumV_snoc vals k hkt)
     have hr2 := Code.sumV_range (vals.take k)
     have hr3 := Code.weightT_range vals[k].thing
     have hr2' : (vals.take k).length <= 100000 := by rw [List.length_take]; omega
     clear d0 d1 hth
     generalize Code.sumV (vals.take k) = s1 at *
     generalize vals[k].num = x at *
     generalize Code.weightT vals[k].thing = wt at *
     go_wp2_with fail
     generalize hw9 : wr.alloc _ = w9
     have hb9 : Below w.heap.size w w9 := by rw [<- hw9]; exact below_al hbs _
     clear hw9 d0' d1'
     refine (HW.out w9 hb9).mono ?_
     rintro e w10 ⟨rfl, hb10⟩
     have hb10' : Below w.heap.size w w10 := hb9.trans (hb10.mono hb9.size)
     go_wp2
     exact ⟨⟨k + 1, by omega, by go_num, by rw [HS.out, Int.add_assoc], hb10'⟩, by simp [intOf]; omega⟩
    ·have HA : Hid (vals.take k = vals) := hide (List.take_of_length_le (by omega))
     rw [HA.out]
     go_wp2
     exact ⟨⟨j + 1, by omega, by go_num, by rw [HSN.out], hbs⟩, by simp [intOf]; omega⟩
  ·have HA : Hid (bks.take j = bks) := hide (List.take_of_length_le (by omega))
   rw [HA.out]
   go_wp2
   go_ret
   exact ⟨rfl, hbw⟩
theorem Code.fn_ops {s : List UInt8} {f : Code.Fn} (h : Code.FnIs s f) : ∀ b ∈ f.blocks, ∀ v ∈ b.values, ∀ k of, v.thing = .apply k of -> k < 13 := by
 obtain ⟨g, rfl, h2, rfl⟩ := Code.fnIs_inv h
 intro b hb v hv k of e
 obtain ⟨b0, hb0, rfl⟩ := List.mem_map.1 hb
 have := ((h2.blocks b0 hb0).vals v hv).2
 rw [e] at this
 exact this.1
theorem Code.ErrOf.range {s : List UInt8} {er : Int} (h : Code.ErrOf s er) : er = 1 \/ er = 2 := by
 cases h
 ·exact Or.inl rfl
 ·exact Or.inr rfl
theorem weight_any (s : ByteArray) (w : World) (ht : Tab w) :
  Calls Tryz.prog 17 #[.string s] w fun e w' =>
   ((∃ er, Code.ErrOf (bl s) er /\ e = .returned (.tuple #[.int .i64 0, .int .i64 er])) \/ (∃ f, (bl s).length <= 1500 /\ Code.FnIs (bl s) f /\ Code.Right f.blocks /\ e = .returned (.tuple #[.int .i64 (Code.sumB f.blocks), .int .i64 0]))) /\ Below w.heap.size w w' := by
 have HR := hide (irRead_any s w ht)
 have HT := hide ht
 clear ht
 go_enter Tryz.func17, Tryz.ntmps17
 go_wp2_with fail
 refine HR.out.mono ?_
 rintro e w1 ⟨⟨er, h1, rfl⟩ | ⟨f, p, c, h1, h2, h3, rfl, h4⟩, hb⟩
 ·have hne : (er != 0) = true := by rcases h1.range with rfl | rfl <;> rfl
  go_wp2
  go_ret2
  exact ⟨Or.inl ⟨er, h1, rfl⟩, below_al hb _⟩
 ·have H := hide (And.intro h1 (And.intro h2 h3))
  have H4 := hide h4
  clear h1 h2 h3 h4
  go_wp2_with fail
  generalize hw3 : w1.alloc _ = w3
  have hb3 : Below w1.heap.size w1 w3 := by rw [<- hw3]; exact below_al (Below.refl _ _) _
  clear hw3
  have hbw3 : Below w.heap.size w w3 := hb.trans (hb3.mono hb.size)
  refine (weightF_any f.args f.blocks p c w.heap.size w3 (HT.out.below hbw3) (H4.out.below hb3) H.out.2.2.most (fun b hb => (H.out.2.2.small b hb).1) (Code.fn_ops H.out.2.1)).mono ?_
  rintro e w4 ⟨rfl, hb4⟩
  go_wp2
  go_ret2
  exact ⟨Or.inr ⟨f, H.out.1, H.out.2.1, H.out.2.2, rfl⟩, hbw3.trans (hb4.mono hbw3.size)⟩
end Go.Proofs.YtedkjanogjglkaaGreatDoor
namespace Go.Proofs.YtedkjanogjglkaaGreatDoor.Code
inductive RTree where
 | name (w : List UInt8)
 | hash (w : List UInt8)
 | num (n : Int)
 | op (k : Nat) (kids : List RTree)
 | fold (k : Nat) (kids : List RTree)
def nameP (s : List UInt8) : Option (List UInt8 × List UInt8) :=
 if word s = [] \/ 6 < (word s).length \/ (opNamed (word s)).isSome = true then none else some (word s, behind s)
def atomP (s : List UInt8) : Option (RTree × List UInt8) := match cut [35] s with
 | some r => (nameP r).map fun p => (.hash p.1, p.2)
 | none => if word s = [] then (signed s).map fun p => (.num p.1, p.2) else (nameP s).map fun p => (.name p.1, p.2)
def kidsP (f : List UInt8 -> Option (RTree × List UInt8)) : Nat -> List UInt8 -> Option (List RTree × List UInt8)
 | 0, s => some ([], s)
 | n + 1, s => (cut [32] s).bind fun r => (f r).bind fun p => (kidsP f n p.2).map fun q => (p.1 :: q.1, q.2)
def innerP (f : List UInt8 -> Option (RTree × List UInt8)) (mk : Nat -> List RTree -> RTree) (s : List UInt8) : Option (RTree × List UInt8) :=
 (opNamed (word s)).bind fun k => (kidsP f (opOf k) (behind s)).bind fun p => (cut [41] p.2).map fun r => (mk k p.1, r)
def treeP (result : Bool) : Nat -> List UInt8 -> Option (RTree × List UInt8)
 | 0, s => if (cut [40] s).isSome = true then none else if result = true /\ (cut [33, 40] s).isSome = true then none else atomP s
 | d + 1, s => match cut [40] s with
  | some r => innerP (treeP result d) .op r
  | none => match (if result = true then cut [33, 40] s else none) with
   | some r => innerP (treeP result d) .fold r
   | none => atomP s
def nodeP (s : List UInt8) : Option (RTree × List UInt8) := (cut [40] s).bind fun r => innerP (treeP false 3) .op r
def lineP (s : List UInt8) : Option (RTree × RTree) :=
 (nodeP s).bind fun p => (cut [32, 61, 62, 32] p.2).bind fun r => (treeP true 4 r).bind fun q => if q.2 = [] then some (p.1, q.1) else none
mutual
def RTree.folds (within : Bool) : RTree -> Bool
 | .name _ => !within
 | .hash _ => true
 | .num _ => true
 | .op _ kids => !within && foldsAll within kids
 | .fold k kids => k != 3 && foldsAll true kids
def foldsAll (within : Bool) : List RTree -> Bool
 | [] => true
 | t :: l => t.folds within && foldsAll within l
end
mutual
def RTree.names : RTree -> List (List UInt8 × Bool)
 | .name w => [(w, false)]
 | .hash w => [(w, true)]
 | .num _ => []
 | .op _ kids => namesAll kids
 | .fold _ kids => namesAll kids
def namesAll : List RTree -> List (List UInt8 × Bool)
 | [] => []
 | t :: l => t.names ++ namesAll l
end
def Alike (l : List (List UInt8 × Bool)) : Prop := ∀ w, ¬ ((w, true) ∈ l /\ (w, false) ∈ l)
def Bound (node result : List (List UInt8 × Bool)) : Prop := ∀ p ∈ result, if p.2 = true then (p.1, true) ∈ node else ∃ b, (p.1, b) ∈ node
mutual
def RTree.heavy : RTree -> Int
 | .name _ => 0
 | .op k kids => opW k + heavyAll kids
 | _ => 1
def heavyAll : List RTree -> Int
 | [] => 0
 | t :: l => t.heavy + heavyAll l
end
inductive LineOf (s : List UInt8) : Except Int (RTree × RTree) -> Prop
 | no : lineP s = none -> LineOf s (.error 6)
 | folds {n r : RTree} : lineP s = some (n, r) -> (r.folds false = false \/ ¬ Alike n.names) -> LineOf s (.error 6)
 | bound {n r : RTree} : lineP s = some (n, r) -> r.folds false = true -> Alike n.names -> ¬ Bound n.names r.names -> LineOf s (.error 7)
 | heavy {k : Nat} {l : List RTree} {r : RTree} : lineP s = some (.op k l, r) -> r.folds false = true -> Alike (RTree.op k l).names -> Bound (RTree.op k l).names r.names -> (k = 3 \/ opW k <= r.heavy) -> LineOf s (.error 8)
 | ok {k : Nat} {l : List RTree} {r : RTree} : lineP s = some (.op k l, r) -> r.folds false = true -> Alike (RTree.op k l).names -> Bound (RTree.op k l).names r.names -> k ≠ 3 -> r.heavy < opW k -> LineOf s (.ok (.op k l, r))
theorem opNamed_lt {s : List UInt8} {k : Nat} (h : opNamed s = some k) : k < 13 := by
 unfold opNamed at h
 obtain ⟨hl, _⟩ := List.findIdx?_eq_some_iff_getElem.1 h
 exact hl
theorem nodeP_op {s : List UInt8} {t : RTree} {r : List UInt8} (h : nodeP s = some (t, r)) : ∃ k l, t = .op k l /\ k < 13 := by
 unfold nodeP innerP at h
 simp only [Option.bind_eq_some_iff, Option.map_eq_some_iff, Prod.mk.injEq] at h
 obtain ⟨_, _, k, hk, p, _, r', _, ht, _⟩ := h
 exact ⟨k, p.1, ht.symm, opNamed_lt hk⟩
mutual
def RTree.depth : RTree -> Nat
 | .op _ kids => depthAll kids + 1
 | .fold _ kids => depthAll kids + 1
 | _ => 0
def depthAll : List RTree -> Nat
 | [] => 0
 | t :: l => max t.depth (depthAll l)
end
theorem atomP_depth {s : List UInt8} {t : RTree} {r : List UInt8} (h : atomP s = some (t, r)) : t.depth = 0 := by
 unfold atomP at h
 split at h
 ·simp only [Option.map_eq_some_iff, Prod.mk.injEq] at h
  obtain ⟨p, _, rfl, _⟩ := h
  simp [RTree.depth]
 ·split at h
  ·simp only [Option.map_eq_some_iff, Prod.mk.injEq] at h
   obtain ⟨p, _, rfl, _⟩ := h
   simp [RTree.depth]
  ·simp only [Option.map_eq_some_iff, Prod.mk.injEq] at h
   obtain ⟨p, _, rfl, _⟩ := h
   simp [RTree.depth]
theorem kidsP_same {f g : List UInt8 -> Option (RTree × List UInt8)} {d : Nat} (h : ∀ s t r, f s = some (t, r) ↔ g s = some (t, r) /\ t.depth <= d) : ∀ (n : Nat) (s : List UInt8) (l : List RTree) (r : List UInt8),
  kidsP f n s = some (l, r) ↔ kidsP g n s = some (l, r) /\ depthAll l <= d
 | 0, s, l, r => by
  simp only [kidsP, Option.some.injEq, Prod.mk.injEq]
  constructor
  ·rintro ⟨rfl, rfl⟩; exact ⟨⟨rfl, rfl⟩, by simp [depthAll]⟩
  ·exact fun h => h.1
 | n + 1, s, l, r => by
  simp only [kidsP, Option.bind_eq_some_iff, Option.map_eq_some_iff, Prod.mk.injEq]
  constructor
  ·rintro ⟨a, ha, ⟨t, u⟩, hp, ⟨l', v⟩, hq, rfl, rfl⟩
   obtain ⟨h1, h2⟩ := (h a t u).1 hp
   obtain ⟨h3, h4⟩ := (kidsP_same h n u l' v).1 hq
   exact ⟨⟨a, ha, (t, u), h1, (l', v), h3, rfl, rfl⟩, by simp only [depthAll]; omega⟩
  ·rintro ⟨⟨a, ha, ⟨t, u⟩, hp, ⟨l', v⟩, hq, rfl, rfl⟩, hd⟩
   simp only [depthAll] at hd
   exact ⟨a, ha, (t, u), (h a t u).2 ⟨hp, by omega⟩, (l', v), (kidsP_same h n u l' v).2 ⟨hq, by omega⟩, rfl, rfl⟩
theorem innerP_same {f g : List UInt8 -> Option (RTree × List UInt8)} {d : Nat} (h : ∀ s t r, f s = some (t, r) ↔ g s = some (t, r) /\ t.depth <= d) {mk : Nat -> List RTree -> RTree} (hmk : ∀ k l, (mk k l).depth = depthAll l + 1) (s : List UInt8) (t : RTree) (r : List UInt8) :
  innerP f mk s = some (t, r) ↔ innerP g mk s = some (t, r) /\ t.depth <= d + 1 := by
 simp only [innerP, Option.bind_eq_some_iff, Option.map_eq_some_iff, Prod.mk.injEq]
 constructor
 ·rintro ⟨k, hk, ⟨l, u⟩, hp, v, hv, rfl, rfl⟩
  obtain ⟨h1, h2⟩ := (kidsP_same h _ _ l u).1 hp
  exact ⟨⟨k, hk, (l, u), h1, v, hv, rfl, rfl⟩, by rw [hmk]; exact Nat.succ_le_succ h2⟩
 ·rintro ⟨⟨k, hk, ⟨l, u⟩, hp, v, hv, rfl, rfl⟩, hd⟩
  rw [hmk] at hd
  exact ⟨k, hk, (l, u), (kidsP_same h _ _ l u).2 ⟨hp, Nat.le_of_succ_le_succ hd⟩, v, hv, rfl, rfl⟩
theorem treeP_same (result : Bool) : ∀ (d e : Nat), d <= e -> ∀ (s : List UInt8) (t : RTree) (r : List UInt8), treeP result d s = some (t, r) ↔ treeP result e s = some (t, r) /\ t.depth <= d
 | 0, 0, _, s, t, r => by
  constructor
  ·intro h
   refine ⟨h, ?_⟩
   rw [treeP] at h
   split at h
   ·cases h
   ·split at h
    ·cases h
    ·rw [atomP_depth h]; exact Nat.le_refl _
  ·exact fun h => h.1
 | 0, e + 1, _, s, t, r => by
  rw [treeP, treeP]
  cases hc : cut [40] s with
  | some a =>
   simp only [Option.isSome_some, if_true]
   constructor
   ·intro h; cases h
   ·rintro ⟨h, hd⟩
    simp only [innerP, Option.bind_eq_some_iff, Option.map_eq_some_iff, Prod.mk.injEq] at h
    obtain ⟨k, _, p, _, v, _, rfl, _⟩ := h
    simp [RTree.depth] at hd
  | none =>
   simp only [Option.isSome_none, Bool.false_eq_true, if_false]
   by_cases hr : result = true /\ (cut [33, 40] s).isSome = true
   ·rw [if_pos hr]
    obtain ⟨a, ha⟩ := Option.isSome_iff_exists.1 hr.2
    rw [if_pos hr.1, ha]
    constructor
    ·intro h; cases h
    ·rintro ⟨h, hd⟩
     simp only [innerP, Option.bind_eq_some_iff, Option.map_eq_some_iff, Prod.mk.injEq] at h
     obtain ⟨k, _, p, _, v, _, rfl, _⟩ := h
     simp [RTree.depth] at hd
   ·rw [if_neg hr]
    have hn : (if result = true then cut [33, 40] s else none) = none := by
     by_cases h1 : result = true
     ·rw [if_pos h1]
      cases h2 : cut [33, 40] s with
      | none => rfl
      | some a => exact absurd ⟨h1, by rw [h2]; rfl⟩ hr
     ·rw [if_neg h1]
    rw [hn]
    exact ⟨fun h => ⟨h, by rw [atomP_depth h]; exact Nat.le_refl _⟩, fun h => h.1⟩
 | d + 1, 0, h, _, _, _ => by omega
 | d + 1, e + 1, hde, s, t, r => by
  have ih := treeP_same result d e (by omega)
  rw [treeP, treeP]
  cases hc : cut [40] s with
  | some a => exact innerP_same ih (fun k l => by simp [RTree.depth]) a t r
  | none =>
   simp only
   split
   ·exact innerP_same ih (fun k l => by simp [RTree.depth]) _ t r
   ·exact ⟨fun h => ⟨h, by rw [atomP_depth h]; exact Nat.zero_le _⟩, fun h => h.1⟩
abbrev Nm := List UInt8 × Bool
structure RSt where
 names : List Nm
 unbound : Bool
def slotOf (ns : List Nm) (p : Nm) : Option Nat := ns.findIdx? fun q => q.1 == p.1 && (q.2 || !p.2)
def slotAt (ns : List Nm) (w : List UInt8) : Option Nat := ns.findIdx? fun q => q.1 == w
def bindS (st : RSt) (p : Nm) : Option RSt := match slotAt st.names p.1 with
 | some k => if (st.names[k]?.map (·.2)) = some p.2 then some st else none
 | none => some ⟨st.names ++ [p], st.unbound⟩
def findS (st : RSt) (p : Nm) : Option RSt := some ⟨st.names, st.unbound || (slotOf st.names p).isNone⟩
def RTree.leaf (slot : RSt -> Nm -> Option RSt) (st : RSt) : RTree -> Option RSt
 | .name w => slot st (w, false)
 | .hash w => slot st (w, true)
 | _ => some st
def atomS (slot : RSt -> Nm -> Option RSt) (st : RSt) (s : List UInt8) : Option (RTree × RSt × List UInt8) :=
 (atomP s).bind fun p => (p.1.leaf slot st).map fun st' => (p.1, st', p.2)
abbrev Prs := RSt -> List UInt8 -> Option (RTree × RSt × List UInt8)
def kidsS (f : Prs) : Nat -> RSt -> List UInt8 -> Option (List RTree × RSt × List UInt8)
 | 0, st, s => some ([], st, s)
 | n + 1, st, s => (cut [32] s).bind fun r => (f st r).bind fun p => (kidsS f n p.2.1 p.2.2).map fun q => (p.1 :: q.1, q.2)
def operS (f : Prs) (mk : Nat -> List RTree -> RTree) (st : RSt) (s : List UInt8) : Option (RTree × RSt × List UInt8) :=
 (cut [40] s).bind fun s => (opNamed (word s)).bind fun k => (kidsS f (opOf k) st (behind s)).bind fun p => (cut [41] p.2.2).map fun r => (mk k p.1, p.2.1, r)
def partS : Nat -> Prs
 | 0 => fun st s => if (cut [40] s).isSome = true then none else atomS bindS st s
 | d + 1 => fun st s => if (cut [40] s).isSome = true then operS (partS d) .op st s else atomS bindS st s
def RTree.known : RTree -> Bool
 | .name _ => false
 | .op _ _ => false
 | _ => true
def RTree.isDiv : RTree -> Bool
 | .fold 3 _ => true
 | .op 3 _ => true
 | _ => false
def knownS (f : Prs) : Prs := fun st s => (f st s).filter fun q => q.1.known
def foldS (f : Prs) : Prs := fun st s => (operS (knownS f) .fold st s).filter fun q => !q.1.isDiv
def resS : Nat -> Prs
 | 0 => fun st s => if (cut [33] s).isSome = true then none else if (cut [40] s).isSome = true then none else atomS findS st s
 | d + 1 => fun st s => match cut [33] s with
  | some r => foldS (resS d) st r
  | none => if (cut [40] s).isSome = true then operS (resS d) .op st s else atomS findS st s
def ruleS (s : List UInt8) : Option (RTree × RTree × RSt) :=
 (operS (partS 3) .op ⟨[], false⟩ s).bind fun p => (cut [32, 61, 62, 32] p.2.2).bind fun r => (resS 4 p.2.1 r).bind fun q => if q.2.2 = [] then some (p.1, q.1, q.2.1) else none
def lineS (s : List UInt8) : Except Int (RTree × RTree × List Nm) := match ruleS s with
 | none => .error 6
 | some (n, r, st) => if st.unbound = true then .error 7 else if n.isDiv = true \/ (match n with | .op k _ => opW k | _ => 0) <= r.heavy then .error 8 else .ok (n, r, st.names)
def slots (slot : RSt -> Nm -> Option RSt) : RSt -> List Nm -> Option RSt
 | st, [] => some st
 | st, p :: l => (slot st p).bind fun st' => slots slot st' l
theorem slots_app (slot : RSt -> Nm -> Option RSt) : ∀ (l m : List Nm) (st : RSt), slots slot st (l ++ m) = (slots slot st l).bind fun st' => slots slot st' m
 | [], m, st => rfl
 | p :: l, m, st => by
  simp only [List.cons_append, slots]
  cases slot st p with
  | none => rfl
  | some st' => exact slots_app slot l m st'
def upon (c : RTree -> Bool) (slot : RSt -> Nm -> Option RSt) (st : RSt) (p : RTree × List UInt8) : Option (RTree × RSt × List UInt8) :=
 if c p.1 = true then (slots slot st p.1.names).map fun st' => (p.1, st', p.2) else none
def uponAll (c : RTree -> Bool) (slot : RSt -> Nm -> Option RSt) (st : RSt) (p : List RTree × List UInt8) : Option (List RTree × RSt × List UInt8) :=
 if p.1.all c = true then (slots slot st (namesAll p.1)).map fun st' => (p.1, st', p.2) else none
theorem kids_upon {f : Prs} {g : List UInt8 -> Option (RTree × List UInt8)} {c : RTree -> Bool} {slot : RSt -> Nm -> Option RSt} (h : ∀ st s, f st s = (g s).bind (upon c slot st)) : ∀ (n : Nat) (st : RSt) (s : List UInt8),
  kidsS f n st s = (kidsP g n s).bind (uponAll c slot st)
 | 0, st, s => by simp [kidsS, kidsP, uponAll, namesAll, slots]
 | n + 1, st, s => by
  have ih := kids_upon h n
  simp only [kidsS, kidsP]
  cases hc : cut [32] s with
  | none => rfl
  | some r =>
   simp only [Option.bind_some]
   rw [h]
   cases hg : g r with
   | none => rfl
   | some p =>
    simp only [Option.bind_some]
    by_cases hp : c p.1 = true
    ·simp only [upon, hp, if_true]
     cases hs : slots slot st p.1.names with
     | none =>
      simp only [Option.map_none, Option.bind_none]
      cases hk : kidsP g n p.2 with
      | none => rfl
      | some q =>
       simp only [Option.map_some, Option.bind_some, uponAll]
       split
       ·rw [namesAll, slots_app, hs]; rfl
       ·rfl
     | some st' =>
      simp only [Option.map_some, Option.bind_some]
      rw [ih]
      cases hk : kidsP g n p.2 with
      | none => rfl
      | some q =>
       simp only [Option.map_some, Option.bind_some, uponAll, List.all_cons, hp, Bool.true_and]
       split
       ·rw [namesAll, slots_app, hs]
        simp only [Option.bind_some]
        cases slots slot st' (namesAll q.1) <;> rfl
       ·rfl
    ·have hp' : c p.1 = false := by simpa using hp
     simp only [upon, hp', Bool.false_eq_true, if_false, Option.bind_none]
     cases hk : kidsP g n p.2 with
     | none => rfl
     | some q => simp [uponAll, hp']
theorem oper_upon {f : Prs} {g : List UInt8 -> Option (RTree × List UInt8)} {c c' : RTree -> Bool} {slot : RSt -> Nm -> Option RSt} {mk : Nat -> List RTree -> RTree} (h : ∀ st s, f st s = (g s).bind (upon c slot st)) (hn : ∀ k l, (mk k l).names = namesAll l) (hc : ∀ k l, c' (mk k l) = l.all c) (st : RSt) (s : List UInt8) :
  operS f mk st s = ((cut [40] s).bind (innerP g mk)).bind (upon c' slot st) := by
 unfold operS innerP
 cases cut [40] s with
 | none => rfl
 | some r =>
  simp only [Option.bind_some]
  cases opNamed (word r) with
  | none => rfl
  | some k =>
   simp only [Option.bind_some]
   rw [kids_upon h]
   cases kidsP g (opOf k) (behind r) with
   | none => rfl
   | some q =>
    simp only [Option.bind_some, uponAll]
    cases h41 : cut [41] q.2 with
    | none =>
     simp only [Option.map_none, Option.bind_none]
     split
     ·cases slots slot st (namesAll q.1) with
      | none => rfl
      | some st' => simp [h41]
     ·rfl
    | some t =>
     simp only [Option.map_some, Option.bind_some, upon, hn, hc]
     split
     ·cases slots slot st (namesAll q.1) with
      | none => rfl
      | some st' => simp [h41]
     ·rfl
theorem atom_upon (c : RTree -> Bool) (slot : RSt -> Nm -> Option RSt) (hc : ∀ s t r, atomP s = some (t, r) -> c t = true) (st : RSt) (s : List UInt8) : atomS slot st s = (atomP s).bind (upon c slot st) := by
 unfold atomS
 cases h : atomP s with
 | none => rfl
 | some p =>
  have hp := hc s p.1 p.2 h
  simp only [Option.bind_some, upon, hp, if_true]
  unfold atomP at h
  have hs : ∀ q : Nm, slots slot st [q] = slot st q := fun q => by simp only [slots]; cases slot st q <;> rfl
  split at h
  ·simp only [Option.map_eq_some_iff] at h
   obtain ⟨q, _, rfl⟩ := h
   simp [RTree.leaf, RTree.names, hs]
  ·split at h
   ·simp only [Option.map_eq_some_iff] at h
    obtain ⟨q, _, rfl⟩ := h
    simp [RTree.leaf, RTree.names, slots]
   ·simp only [Option.map_eq_some_iff] at h
    obtain ⟨q, _, rfl⟩ := h
    simp [RTree.leaf, RTree.names, hs]
theorem all_true (l : List RTree) : l.all (fun _ => true) = true := by simp
theorem part_upon : ∀ (d : Nat) (st : RSt) (s : List UInt8), partS d st s = (treeP false d s).bind (upon (fun _ => true) bindS st)
 | 0, st, s => by
  simp only [partS, treeP, Bool.false_eq_true, false_and, if_false]
  split
  ·rfl
  ·exact atom_upon _ _ (fun _ _ _ _ => rfl) st s
 | d + 1, st, s => by
  simp only [partS, treeP, Bool.false_eq_true, if_false]
  have h := oper_upon (c' := fun _ => true) (mk := .op) (part_upon d) (fun k l => by simp [RTree.names]) (fun k l => (all_true l).symm) st s
  cases hc : cut [40] s with
  | none => exact atom_upon _ _ (fun _ _ _ _ => rfl) st s
  | some r =>
   rw [hc] at h
   simp only [Option.isSome_some, if_true]
   exact h
theorem foldsAll_eq (b : Bool) : ∀ l : List RTree, foldsAll b l = l.all (RTree.folds b)
 | [] => by simp [foldsAll]
 | t :: l => by simp only [foldsAll, List.all_cons, foldsAll_eq b l]
theorem folds_known (t : RTree) : t.folds true = (t.folds false && t.known) := by
 cases t <;> simp [RTree.folds, RTree.known]
theorem known_upon {f : Prs} {g : List UInt8 -> Option (RTree × List UInt8)} {slot : RSt -> Nm -> Option RSt} (h : ∀ st s, f st s = (g s).bind (upon (RTree.folds false) slot st)) (st : RSt) (s : List UInt8) :
  knownS f st s = (g s).bind (upon (RTree.folds true) slot st) := by
 unfold knownS
 rw [h]
 cases g s with
 | none => rfl
 | some p =>
  simp only [Option.bind_some, upon, folds_known]
  cases h1 : p.1.folds false with
  | false => rfl
  | true =>
   simp only [if_true, Bool.true_and]
   cases h2 : p.1.known with
   | false => cases slots slot st p.1.names <;> simp [h2]
   | true => cases slots slot st p.1.names <;> simp [h2]
theorem filter_upon {o : Option (RTree × List UInt8)} {c c' : RTree -> Bool} {q : RTree -> Bool} {slot : RSt -> Nm -> Option RSt} {st : RSt} (h : ∀ t r, o = some (t, r) -> c' t = (c t && q t)) :
  (o.bind (upon c slot st)).filter (fun p => q p.1) = o.bind (upon c' slot st) := by
 cases o with
 | none => rfl
 | some p =>
  have h := h p.1 p.2 rfl
  simp only [Option.bind_some, upon, h]
  cases c p.1 with
  | false => rfl
  | true =>
   simp only [if_true, Bool.true_and]
   cases h2 : q p.1 <;> cases slots slot st p.1.names <;> simp [h2]
theorem word_bang {s r : List UInt8} (h : cut [33] s = some r) : atomP s = none := by
 have e := cut_some h
 subst e
 have h1 : cut [35] ([33] ++ r) = none := by simp [cut, List.isPrefixOf]
 have h2 : word ([33] ++ r) = [] := by simp [word, run, isIn]
 have h3 : cut [45] ([33] ++ r) = none := by simp [cut, List.isPrefixOf]
 have h4 : number ([33] ++ r) = none := by simp [number, run, isIn, badDigits]
 unfold atomP
 rw [h1]
 simp only [h2, if_true]
 unfold signed
 rw [h3]
 simp only [h4, Option.bind_none, Option.map_none]
theorem cut_cut (s : List UInt8) : cut [33, 40] s = (cut [33] s).bind (cut [40]) := by
 cases s with
 | nil => simp [cut, List.isPrefixOf]
 | cons a s =>
  by_cases h : (33 : UInt8) = a
  ·subst h
   cases s with
   | nil => simp [cut, List.isPrefixOf]
   | cons b s =>
    by_cases h2 : (40 : UInt8) = b
    ·subst h2; simp [cut, List.isPrefixOf]
    ·simp [cut, List.isPrefixOf, h2]
  ·simp [cut, List.isPrefixOf, h]
theorem cut_both {s r : List UInt8} (h : cut [33] s = some r) : cut [40] s = none := by
 have e := cut_some h
 subst e
 simp [cut, List.isPrefixOf]
theorem res_upon : ∀ (d : Nat) (st : RSt) (s : List UInt8), resS d st s = (treeP true d s).bind (upon (RTree.folds false) findS st)
 | 0, st, s => by
  simp only [resS, treeP, true_and]
  cases h33 : cut [33] s with
  | some r =>
   have h40 := cut_both h33
   simp only [Option.isSome_some, if_true, h40, Option.isSome_none, Bool.false_eq_true, if_false]
   rw [word_bang h33]
   split <;> rfl
  | none =>
   simp only [Option.isSome_none, Bool.false_eq_true, if_false, cut_cut, h33, Option.bind_none]
   split
   ·rfl
   ·exact atom_upon _ _ atom_folds st s
 | d + 1, st, s => by
  have ih := res_upon d
  simp only [resS, treeP, if_true]
  cases h33 : cut [33] s with
  | some r =>
   have h40 := cut_both h33
   simp only [h40, cut_cut, h33, Option.bind_some, foldS]
   have ho := oper_upon (c' := fun t => match t with | .fold _ l => foldsAll true l | _ => false) (mk := .fold) (known_upon ih) (fun k l => by simp [RTree.names]) (fun k l => by simp [foldsAll_eq]) st r
   rw [ho]
   cases h41 : cut [40] r with
   | none => simp [word_bang h33]
   | some t =>
    simp only [Option.bind_some]
    refine filter_upon (q := fun t => !t.isDiv) ?_
    intro t u hi
    simp only [innerP, Option.bind_eq_some_iff, Option.map_eq_some_iff, Prod.mk.injEq] at hi
    obtain ⟨k, _, p, _, v, _, rfl, _⟩ := hi
    simp only [RTree.folds, RTree.isDiv]
    by_cases hk : k = 3
    ·subst hk; simp
    ·have : (k != 3) = true := by simpa using hk
     rw [this, Bool.true_and]
     split
     ·rename_i h; exact absurd (by injection h) hk
     ·rename_i h; cases h
     ·simp
  | none =>
   simp only [cut_cut, h33, Option.bind_none]
   have ho := oper_upon (c' := RTree.folds false) (mk := .op) ih (fun k l => by simp [RTree.names]) (fun k l => by simp [RTree.folds, foldsAll_eq]) st s
   cases hc : cut [40] s with
   | none =>
    simp only [Option.isSome_none, Bool.false_eq_true, if_false]
    exact atom_upon _ _ atom_folds st s
   | some r =>
    rw [hc] at ho
    simp only [Option.isSome_some, if_true]
    exact ho
where
 atom_folds (s : List UInt8) (t : RTree) (r : List UInt8) (h : atomP s = some (t, r)) : t.folds false = true := by
  unfold atomP at h
  split at h
  ·simp only [Option.map_eq_some_iff, Prod.mk.injEq] at h
   obtain ⟨p, _, rfl, _⟩ := h
   simp [RTree.folds]
  ·split at h
   ·simp only [Option.map_eq_some_iff, Prod.mk.injEq] at h
    obtain ⟨p, _, rfl, _⟩ := h
    simp [RTree.folds]
   ·simp only [Option.map_eq_some_iff, Prod.mk.injEq] at h
    obtain ⟨p, _, rfl, _⟩ := h
    simp [RTree.folds]
def Cons (l : List Nm) : Prop := ∀ p ∈ l, ∀ q ∈ l, p.1 = q.1 -> p = q
theorem cons_alike (l : List Nm) : Cons l ↔ Alike l := by
 constructor
 ·intro h w ⟨h1, h2⟩
  have := h _ h1 _ h2 rfl
  simp at this
 ·intro h p hp q hq e
  rcases p with ⟨a, b⟩
  rcases q with ⟨a', b'⟩
  simp only at e
  subst e
  cases b <;> cases b'
  ·rfl
  ·exact absurd ⟨hq, hp⟩ (h a)
  ·exact absurd ⟨hp, hq⟩ (h a)
  ·rfl
theorem slotAt_some {ns : List Nm} {w : List UInt8} {k : Nat} (h : slotAt ns w = some k) : ∃ b, ns[k]? = some (w, b) := by
 obtain ⟨hl, hp, _⟩ := List.findIdx?_eq_some_iff_getElem.1 h
 refine ⟨(ns[k]).2, ?_⟩
 rw [List.getElem?_eq_getElem hl]
 simp only [beq_iff_eq] at hp
 rw [<- hp]
theorem slotAt_none {ns : List Nm} {w : List UInt8} (h : slotAt ns w = none) : ∀ q ∈ ns, q.1 ≠ w := by
 intro q hq
 have := List.findIdx?_eq_none_iff.1 h q hq
 simpa using this
theorem bind_all : ∀ (l : List Nm) (st : RSt), Cons st.names ->
  (∀ st', slots bindS st l = some st' -> st'.unbound = st.unbound /\ Cons st'.names /\ (∀ p, p ∈ st'.names ↔ p ∈ st.names \/ p ∈ l) /\ ∃ m, st'.names = st.names ++ m) /\
  (slots bindS st l = none -> ¬ Cons (st.names ++ l))
 | [], st, hc => by
  refine ⟨?_, ?_⟩
  ·intro st' h
   simp only [slots, Option.some.injEq] at h
   subst h
   exact ⟨rfl, hc, fun p => by simp, [], by simp⟩
  ·intro h; cases h
 | p :: l, st, hc => by
  simp only [slots, bindS]
  cases hs : slotAt st.names p.1 with
  | some k =>
   obtain ⟨b, hb⟩ := slotAt_some hs
   have hm : (p.1, b) ∈ st.names := List.mem_of_getElem? hb
   simp only [hb, Option.map_some, Option.some.injEq]
   by_cases hbe : b = p.2
   ·subst hbe
    simp only [if_true, Option.bind_some]
    obtain ⟨h1, h2⟩ := bind_all l st hc
    refine ⟨fun st' h => ?_, fun h hcc => ?_⟩
    ·obtain ⟨a1, a2, a3, a4⟩ := h1 st' h
     refine ⟨a1, a2, fun q => ?_, a4⟩
     rw [a3 q]
     simp only [List.mem_cons]
     constructor
     ·rintro (h | h)
      ·exact Or.inl h
      ·exact Or.inr (Or.inr h)
     ·rintro (h | rfl | h)
      ·exact Or.inl h
      ·exact Or.inl hm
      ·exact Or.inr h
    ·refine h2 h (fun a ha b hb => hcc a ?_ b ?_)
     ·simp only [List.mem_append, List.mem_cons] at ha ⊢
      rcases ha with h | h
      ·exact Or.inl h
      ·exact Or.inr (Or.inr h)
     ·simp only [List.mem_append, List.mem_cons] at hb ⊢
      rcases hb with h | h
      ·exact Or.inl h
      ·exact Or.inr (Or.inr h)
   ·simp only [if_neg hbe, Option.bind_none]
    refine ⟨fun st' h => (nomatch h), fun _ hcc => ?_⟩
    have := hcc (p.1, b) (by simp [hm]) p (by simp) rfl
    exact hbe (congrArg Prod.snd this)
  | none =>
   have hne := slotAt_none hs
   simp only [Option.bind_some]
   have hc' : Cons (st.names ++ [p]) := by
    intro a ha b hb e
    simp only [List.mem_append, List.mem_singleton] at ha hb
    rcases ha with ha | rfl <;> rcases hb with hb | rfl
    ·exact hc a ha b hb e
    ·exact absurd e (hne a ha)
    ·exact absurd e.symm (hne b hb)
    ·rfl
   obtain ⟨h1, h2⟩ := bind_all l ⟨st.names ++ [p], st.unbound⟩ hc'
   refine ⟨fun st' h => ?_, fun h hcc => ?_⟩
   ·obtain ⟨a1, a2, a3, m, a4⟩ := h1 st' h
    refine ⟨a1, a2, fun q => ?_, p :: m, by rw [a4]; simp⟩
    rw [a3 q]
    simp [or_assoc]
   ·refine h2 h ?_
    simpa using hcc
theorem slotOf_some (ns : List Nm) (p : Nm) : (slotOf ns p).isNone = false ↔ (if p.2 = true then (p.1, true) ∈ ns else ∃ b, (p.1, b) ∈ ns) := by
 have e : (slotOf ns p).isNone = false ↔ ∃ q ∈ ns, (q.1 == p.1 && (q.2 || !p.2)) = true := by
  rw [slotOf]
  cases h : List.findIdx? (fun q : Nm => q.1 == p.1 && (q.2 || !p.2)) ns with
  | none =>
   have := List.findIdx?_eq_none_iff.1 h
   simp only [Option.isNone_none, Bool.true_eq_false, false_iff]
   rintro ⟨q, hq, hh⟩
   rw [this q hq] at hh
   cases hh
  | some k =>
   obtain ⟨hl, hp, _⟩ := List.findIdx?_eq_some_iff_getElem.1 h
   simp only [Option.isNone_some, true_iff]
   exact ⟨_, List.getElem_mem hl, hp⟩
 rw [e]
 rcases p with ⟨w, b⟩
 cases b
 ·simp only [Bool.not_false, Bool.or_true, Bool.and_true, beq_iff_eq, Bool.false_eq_true, if_false]
  constructor
  ·rintro ⟨⟨a, c⟩, hq, rfl⟩; exact ⟨c, hq⟩
  ·rintro ⟨b, hb⟩; exact ⟨(w, b), hb, rfl⟩
 ·simp only [Bool.not_true, Bool.or_false, Bool.and_eq_true, beq_iff_eq, if_true]
  constructor
  ·rintro ⟨⟨a, c⟩, hq, h1, h2⟩
   simp only at h1 h2
   subst h1 h2
   exact hq
  ·intro h; exact ⟨_, h, rfl, rfl⟩
theorem find_all (st : RSt) : ∀ (l : List Nm) (u : Bool), slots findS ⟨st.names, u⟩ l = some ⟨st.names, u || l.any fun p => (slotOf st.names p).isNone⟩
 | [], u => by simp [slots]
 | p :: l, u => by
  simp only [slots, findS, Option.bind_some]
  rw [find_all st l]
  simp [Bool.or_assoc]
theorem bound_iff (ns l : List Nm) : (l.any fun p => (slotOf ns p).isNone) = false ↔ Bound ns l := by
 simp only [List.any_eq_false, Bound]
 constructor
 ·intro h p hp
  refine (slotOf_some ns p).1 ?_
  have := h p hp
  cases hh : (slotOf ns p).isNone
  ·rfl
  ·exact absurd hh this
 ·intro h p hp
  rw [(slotOf_some ns p).2 (h p hp)]
  simp
theorem bound_same {ns ms l : List Nm} (h : ∀ p, p ∈ ns ↔ p ∈ ms) : Bound ns l ↔ Bound ms l := by
 unfold Bound
 simp only [h]
theorem lineS_of (s : List UInt8) : (∀ e, lineS s = .error e -> LineOf s (.error e)) /\ (∀ n r ns, lineS s = .ok (n, r, ns) -> LineOf s (.ok (n, r))) := by
 have hnode := oper_upon (c' := fun _ => true) (mk := .op) (part_upon 3) (fun k l => by simp [RTree.names]) (fun k l => (all_true l).symm) ⟨[], false⟩ s
 have hnode' : operS (partS 3) .op ⟨[], false⟩ s = (nodeP s).bind (upon (fun _ => true) bindS ⟨[], false⟩) := hnode
 have hc0 : Cons (RSt.mk [] false).names := by intro p hp; cases hp
 have key : (lineP s = none -> ruleS s = none) /\ (∀ n r, lineP s = some (n, r) -> (r.folds false = false \/ ¬ Alike n.names -> ruleS s = none) /\
   (r.folds false = true -> Alike n.names -> ∃ st, ruleS s = some (n, r, st) /\ (st.unbound = false ↔ Bound n.names r.names))) := by
  unfold lineP ruleS
  rw [hnode']
  cases hN : nodeP s with
  | none => simp
  | some p =>
   simp only [Option.bind_some, upon, if_true]
   obtain ⟨b1, b2⟩ := bind_all p.1.names ⟨[], false⟩ hc0
   cases hb : slots bindS ⟨[], false⟩ p.1.names with
   | none =>
    have hna : ¬ Alike p.1.names := fun h => b2 hb ((cons_alike _).2 h)
    simp only [Option.map_none, Option.bind_none, true_and, implies_true]
    intro n r h
    simp only [Option.bind_eq_some_iff] at h
    obtain ⟨a, _, q, _, h3⟩ := h
    split at h3
    ·simp only [Option.some.injEq, Prod.mk.injEq] at h3
     obtain ⟨rfl, rfl⟩ := h3
     exact fun _ h => absurd h hna
    ·cases h3
   | some st1 =>
    obtain ⟨c1, c2, c3, _⟩ := b1 st1 hb
    have hal : Alike p.1.names := by
     rw [<- cons_alike]
     intro a ha b hb'
     exact c2 a ((c3 a).2 (Or.inr ha)) b ((c3 b).2 (Or.inr hb'))
    simp only [Option.map_some, Option.bind_some]
    cases hcut : cut [32, 61, 62, 32] p.2 with
    | none => simp
    | some r1 =>
     simp only [Option.bind_some]
     rw [res_upon]
     cases hT : treeP true 4 r1 with
     | none => simp
     | some q =>
      simp only [Option.bind_some, upon]
      have hst : st1 = ⟨st1.names, false⟩ := by
       have c1' : st1.unbound = false := c1
       cases st1; simp only at c1'; subst c1'; rfl
      have hfa := find_all st1 q.1.names false
      rw [<- hst] at hfa
      rw [hfa]
      by_cases hq : q.2 = []
      ·simp only [hq, if_true, Option.some.injEq, Prod.mk.injEq, and_imp]
       refine ⟨fun h => (nomatch h), ?_⟩
       rintro n r rfl rfl
       refine ⟨?_, ?_⟩
       ·rintro (h | h)
        ·simp [h]
        ·exact absurd hal h
       ·intro hf _
        simp only [hf, if_true, Option.map_some, Option.bind_some]
        refine ⟨_, rfl, ?_⟩
        simp only [Bool.false_or]
        rw [bound_iff]
        exact bound_same (fun p => by rw [c3 p]; simp)
      ·simp only [if_neg hq, true_implies]
       refine ⟨?_, fun n r h => by cases h⟩
       split
       ·simp [hq]
       ·rfl
 obtain ⟨k1, k2⟩ := key
 unfold lineS
 cases hL : lineP s with
 | none =>
  rw [k1 hL]
  refine ⟨fun e h => ?_, fun n r ns h => by cases h⟩
  simp only [Except.error.injEq] at h
  subst h
  exact .no hL
 | some nr =>
  rcases nr with ⟨n, r⟩
  obtain ⟨k3, k4⟩ := k2 n r hL
  by_cases hbad : r.folds false = false \/ ¬ Alike n.names
  ·rw [k3 hbad]
   refine ⟨fun e h => ?_, fun n r ns h => by cases h⟩
   simp only [Except.error.injEq] at h
   subst h
   exact .folds hL hbad
  ·have hf : r.folds false = true := by
    cases h : r.folds false
    ·exact absurd (Or.inl h) hbad
    ·rfl
   have hal : Alike n.names := Classical.byContradiction fun h => hbad (Or.inr h)
   obtain ⟨st, hst, hu⟩ := k4 hf hal
   rw [hst]
   simp only
   have hop : ∃ k l, n = .op k l := by
    simp only [lineP, Option.bind_eq_some_iff] at hL
    obtain ⟨p, hp, a, _, q, _, h3⟩ := hL
    split at h3
    ·simp only [Option.some.injEq, Prod.mk.injEq] at h3
     obtain ⟨k, l, hk, _⟩ := nodeP_op (t := p.1) (r := p.2) hp
     exact ⟨k, l, by rw [<- h3.1, hk]⟩
    ·cases h3
   obtain ⟨k, l, rfl⟩ := hop
   by_cases hub : st.unbound = true
   ·simp only [hub, if_true]
    refine ⟨fun e h => ?_, fun n r ns h => by cases h⟩
    simp only [Except.error.injEq] at h
    subst h
    exact .bound hL hf hal (fun hb => by rw [hu.2 hb] at hub; cases hub)
   ·have hub' : st.unbound = false := by simpa using hub
    have hbd := hu.1 hub'
    simp only [hub', Bool.false_eq_true, if_false]
    have hdiv : (RTree.op k l).isDiv = true ↔ k = 3 := by
     constructor
     ·intro h
      unfold RTree.isDiv at h
      split at h
      ·rename_i h'; cases h'
      ·rename_i h'; injection h'
      ·cases h
     ·rintro rfl; rfl
    by_cases hh : k = 3 \/ opW k <= r.heavy
    ·have hh' : (RTree.op k l).isDiv = true \/ opW k <= r.heavy := by rw [hdiv]; exact hh
     rw [if_pos hh']
     refine ⟨fun e h => ?_, fun n r ns h => by cases h⟩
     simp only [Except.error.injEq] at h
     subst h
     exact .heavy hL hf hal hbd hh
    ·have hh' : ¬ ((RTree.op k l).isDiv = true \/ opW k <= r.heavy) := by rw [hdiv]; exact hh
     rw [if_neg hh']
     refine ⟨fun e h => (nomatch h), fun n r ns h => ?_⟩
     simp only [Except.ok.injEq, Prod.mk.injEq] at h
     obtain ⟨rfl, rfl, rfl⟩ := h
     simp only [not_or, Int.not_le] at hh
     exact .ok hL hf hal hbd hh.1 hh.2
def things (bks : List Blk) (n : Nat) : Option Thing := ((bks.flatMap Blk.values).find? fun v => v.num == n).map Val.thing
abbrev Known := List (List UInt8 × Nat)
def lookK (kn : Known) (w : List UInt8) : Option Nat := (kn.find? fun p => p.1 == w).map (·.2)
def constOf (th : Nat -> Option Thing) (n : Nat) : Option Int := match th n with
 | some (.const c) => some c
 | _ => none
mutual
def fits (th : Nat -> Option Thing) : RTree -> Nat -> Known -> Option Known
 | .num c, n, kn => if constOf th n = some c then some kn else none
 | .name w, n, kn => match lookK kn w with
  | some v => if v = n then some kn else none
  | none => some (kn ++ [(w, n)])
 | .hash w, n, kn => match constOf th n with
  | none => none
  | some c => match lookK kn w with
   | some v => if constOf th v = some c then some kn else none
   | none => some (kn ++ [(w, n)])
 | .op k kids, n, kn => match th n with
  | some (.apply j of) => if j = k then fitsAll th kids of kn else none
  | _ => none
 | .fold _ _, _, _ => none
def fitsAll (th : Nat -> Option Thing) : List RTree -> List Nat -> Known -> Option Known
 | [], _, kn => some kn
 | _ :: _, [], _ => none
 | t :: l, n :: of, kn => (fits th t n kn).bind fun kn' => fitsAll th l of kn'
end
structure CRule where
 node : RTree
 result : RTree
 names : List Nm
structure Pair where
 block : Nat
 index : Nat
 rule : CRule
def fitsAt (bks : List Blk) (v : Val) (r : CRule) : Bool := (fits (things bks) r.node v.num []).isSome
def pairsV (bks : List Blk) (rules : List CRule) (i : Nat) : Nat -> List Val -> List Pair
 | _, [] => []
 | k, v :: l => ((rules.filter (fitsAt bks v)).map fun r => ⟨i, k, r⟩) ++ pairsV bks rules i (k + 1) l
def pairsB (bks : List Blk) (rules : List CRule) : Nat -> List Blk -> List Pair
 | _, [] => []
 | i, b :: l => pairsV bks rules i 0 b.values ++ pairsB bks rules (i + 1) l
def pairs (rules : List CRule) (bks : List Blk) : List Pair := pairsB bks rules 0 bks
def free (th : Nat -> Option Thing) : Nat -> Nat -> Nat
 | 0, n => n
 | f + 1, n => if n < 60 /\ (th n).isSome = true then free th f (n + 1) else n
def freeFrom (th : Nat -> Option Thing) (n : Nat) : Nat := free th 60 n
def knownV (kn : Known) (w : List UInt8) : Nat := (lookK kn w).getD 0
mutual
def numR (th : Nat -> Option Thing) (kn : Known) : RTree -> Int
 | .num c => c
 | .hash w => (constOf th (knownV kn w)).getD 0
 | .fold k kids => (reckon k ((numsR th kn kids).headD 0) ((numsR th kn kids).getLastD 0)).getD 0
 | _ => 0
def numsR (th : Nat -> Option Thing) (kn : Known) : List RTree -> List Int
 | [] => []
 | t :: l => numR th kn t :: numsR th kn l
end
structure Mk where
 made : List Val
 next : Nat
def Mk.put (th : Nat -> Option Thing) (m : Mk) (t : Thing) : Nat × Mk := (freeFrom th m.next, ⟨m.made ++ [⟨freeFrom th m.next, t⟩], freeFrom th m.next + 1⟩)
mutual
def mkVal (th : Nat -> Option Thing) (kn : Known) : RTree -> Mk -> Nat × Mk
 | .name w, m => (knownV kn w, m)
 | .op k kids, m => (mkAll th kn kids m).2.put th (.apply k (mkAll th kn kids m).1)
 | .hash w, m => m.put th (.const (numR th kn (.hash w)))
 | .num c, m => m.put th (.const (numR th kn (.num c)))
 | .fold k kids, m => m.put th (.const (numR th kn (.fold k kids)))
def mkAll (th : Nat -> Option Thing) (kn : Known) : List RTree -> Mk -> List Nat × Mk
 | [], m => ([], m)
 | t :: l, m => ((mkVal th kn t m).1 :: (mkAll th kn l (mkVal th kn t m).2).1, (mkAll th kn l (mkVal th kn t m).2).2)
end
def mkThing (th : Nat -> Option Thing) (kn : Known) : RTree -> Mk -> Thing × Mk
 | .op k kids, m => (.apply k (mkAll th kn kids m).1, (mkAll th kn kids m).2)
 | t, m => (.const (numR th kn t), m)
def renN (a b n : Nat) : Nat := if n = a then b else n
def renT (a b : Nat) : Thing -> Thing
 | .phi of => .phi (of.map (renN a b))
 | .apply k of => .apply k (of.map (renN a b))
 | t => t
def renL (a b : Nat) : Last -> Last
 | .ret v => .ret (renN a b v)
 | .ifs v x y => .ifs (renN a b v) x y
 | z => z
def renB (a b : Nat) (bks : List Blk) : List Blk := bks.map fun k => ⟨k.values.map fun v => ⟨v.num, renT a b v.thing⟩, renL a b k.last⟩
def putB (i k : Nat) (l : List Val) (bks : List Blk) : List Blk := bks.modify i fun b => ⟨b.values.take k ++ l ++ b.values.drop (k + 1), b.last⟩
def allUses (t : Thing) : List Nat := match t with
 | .phi of => of
 | .apply _ of => of
 | _ => []
def usesB (b : Blk) : List Nat := (b.values.flatMap fun v => allUses v.thing) ++ useL b.last
def usedB (bks : List Blk) (n : Nat) : Bool := (bks.flatMap usesB).contains n
def isDivT : Thing -> Bool
 | .apply 3 _ => true
 | _ => false
def keepsV (bks : List Blk) (v : Val) : Bool := usedB bks v.num || isDivT v.thing
def sweep1 (bks : List Blk) : List Blk := bks.map fun b => ⟨b.values.filter (keepsV bks), b.last⟩
def countB (bks : List Blk) : Nat := (bks.map fun b => b.values.length).sum
def sweepF : Nat -> List Blk -> List Blk
 | 0, bks => bks
 | n + 1, bks => if countB (sweep1 bks) = countB bks then sweep1 bks else sweepF n (sweep1 bks)
def sweep (bks : List Blk) : List Blk := sweepF (countB bks + 1) bks
def stepB1 (bks : List Blk) (p : Pair) (num : Nat) (kn : Known) : Option (List Blk) := match p.rule.result with
 | .name w => some (sweep (renB num (knownV kn w) (putB p.block p.index [] bks)))
 | t => if 60 < (mkThing (things bks) kn t ⟨[], 0⟩).2.next then none
  else some (sweep (putB p.block p.index ((mkThing (things bks) kn t ⟨[], 0⟩).2.made ++ [⟨num, (mkThing (things bks) kn t ⟨[], 0⟩).1⟩]) bks))
def numb (mark : List UInt8) (l : List Int) : List UInt8 := l.flatMap fun n => mark ++ Lib.itoa n
def ofNats (l : List Nat) : List Int := l.map fun n => Int.ofNat n
def wrT : Thing -> List UInt8
 | .phi of => [112, 104, 105] ++ numb [32, 118] (ofNats of)
 | .arg k => numb [97, 114, 103, 32] [(k : Int)]
 | .const c => numb [99, 111, 110, 115, 116, 32] [c]
 | .apply k of => opName k ++ numb [32, 118] (ofNats of)
def wrL : Last -> List UInt8
 | .ret v => [114, 101, 116] ++ numb [32, 118] [(v : Int)]
 | .jump b => [106, 117, 109, 112] ++ numb [32, 98] [(b : Int)]
 | .ifs v x y => [105, 102] ++ numb [32, 118] [(v : Int)] ++ numb [32, 98] [(x : Int), (y : Int)]
def wrV (v : Val) : List UInt8 := numb [118] [(v.num : Int)] ++ [32, 61, 32] ++ wrT v.thing ++ [10]
def wrBk (i : Nat) (b : Blk) : List UInt8 := numb [98] [(i : Int)] ++ [58, 10] ++ b.values.flatMap wrV ++ (wrL b.last ++ [10])
def wrBs : Nat -> List Blk -> List UInt8
 | _, [] => []
 | i, b :: l => wrBk i b ++ wrBs (i + 1) l
def wrF (args : Nat) (bks : List Blk) : List UInt8 := (numb [102, 117, 110, 99, 32] [(args : Int)] ++ [10]) ++ wrBs 0 bks
theorem wrBs_append (bks l : List Blk) : ∀ i, wrBs i (bks ++ l) = wrBs i bks ++ wrBs (i + bks.length) l := by
 induction bks with
 | nil => intro i; simp [wrBs]
 | cons b bks ih =>
  intro i
  simp only [List.cons_append, wrBs, ih, List.append_assoc, List.length_cons]
  rw [show i + 1 + bks.length = i + (bks.length + 1) by omega]
theorem wrBs_take {bks : List Blk} {k : Nat} {b : Blk} (h : bks[k]? = some b) : wrBs 0 (bks.take (k + 1)) = wrBs 0 (bks.take k) ++ wrBk k b := by
 obtain ⟨hk, hb⟩ := List.getElem?_eq_some_iff.1 h
 rw [List.take_succ_eq_append_getElem hk, wrBs_append, hb]
 simp only [wrBs, List.append_nil, Nat.zero_add, List.length_take]
 rw [Nat.min_eq_left (by omega)]
theorem flat_take {α : Type} {β : Type} {l : List α} {k : Nat} {b : α} (f : α -> List β) (h : l[k]? = some b) : (l.take (k + 1)).flatMap f = (l.take k).flatMap f ++ f b := by
 obtain ⟨hk, hb⟩ := List.getElem?_eq_some_iff.1 h
 rw [List.take_succ_eq_append_getElem hk, List.flatMap_append, hb]
 simp
theorem wrBs_le (bks : List Blk) (k i : Nat) : (wrBs i (bks.take k)).length <= (wrBs i bks).length := by
 conv => rhs; rw [<- List.take_append_drop k bks, wrBs_append]
 rw [List.length_append]; omega
theorem flat_le {α : Type} {β : Type} (l : List α) (k : Nat) (f : α -> List β) : ((l.take k).flatMap f).length <= (l.flatMap f).length := by
 conv => rhs; rw [<- List.take_append_drop k l, List.flatMap_append]
 rw [List.length_append]; omega
def preB (args : Nat) (bks : List Blk) (j : Nat) : List UInt8 := (numb [102, 117, 110, 99, 32] [(args : Int)] ++ [10]) ++ wrBs 0 (bks.take j)
def preV (args : Nat) (bks : List Blk) (j : Nat) (vals : List Val) (k : Nat) : List UInt8 := preB args bks j ++ (numb [98] [(j : Int)] ++ [58, 10]) ++ (vals.take k).flatMap wrV
theorem preB_zero (args : Nat) (bks : List Blk) : preB args bks 0 = numb [102, 117, 110, 99, 32] [(args : Int)] ++ [10] := by simp [preB, wrBs]
theorem preB_all (args : Nat) (bks : List Blk) (j : Nat) (h : bks.length <= j) : preB args bks j = wrF args bks := by
 unfold preB wrF
 rw [List.take_of_length_le h]
theorem preV_zero (args : Nat) (bks : List Blk) (j : Nat) (vals : List Val) : preV args bks j vals 0 = preB args bks j ++ (numb [98] [(j : Int)] ++ [58, 10]) := by simp [preV]
theorem preV_succ (args : Nat) (bks : List Blk) (j : Nat) {vals : List Val} {k : Nat} {v : Val} (h : vals[k]? = some v) : preV args bks j vals (k + 1) = preV args bks j vals k ++ wrV v := by
 unfold preV
 rw [flat_take _ h]
 simp only [List.append_assoc]
theorem preB_succ (args : Nat) {bks : List Blk} {j : Nat} {b : Blk} (h : bks[j]? = some b) {k : Nat} (hk : b.values.length <= k) : preB args bks (j + 1) = preV args bks j b.values k ++ (wrL b.last ++ [10]) := by
 unfold preV preB
 rw [wrBs_take h, wrBk, List.take_of_length_le hk]
 simp only [List.append_assoc]
theorem preB_le (args : Nat) (bks : List Blk) (j : Nat) : (preB args bks j).length <= (wrF args bks).length := by
 unfold preB wrF
 simp only [List.length_append]
 exact Nat.add_le_add_left (wrBs_le bks j 0) _
theorem preV_le (args : Nat) {bks : List Blk} {j : Nat} {b : Blk} (h : bks[j]? = some b) (k : Nat) : (preV args bks j b.values k).length <= (wrF args bks).length := by
 refine Nat.le_trans ?_ (preB_le args bks (j + 1))
 rw [preB_succ args h (Nat.le_refl _)]
 unfold preV
 rw [List.take_length]
 simp only [List.length_append]
 have := flat_le b.values k wrV
 omega
theorem numb_len (mark : List UInt8) (l : List Int) (h : ∀ n ∈ l, -9223372036854775808 <= n /\ n <= 9223372036854775807) : (numb mark l).length <= l.length * (mark.length + 21) := by
 unfold numb
 induction l with
 | nil => simp
 | cons n l ih =>
  rw [List.flatMap_cons, List.length_append, List.length_append, List.length_cons, Nat.succ_mul]
  have h1 := Lib.itoa_length_le n (h n (List.mem_cons_self ..)).1 (h n (List.mem_cons_self ..)).2
  have h2 := ih (fun x hx => h x (List.mem_cons_of_mem _ hx))
  omega
end Go.Proofs.YtedkjanogjglkaaGreatDoor.Code
