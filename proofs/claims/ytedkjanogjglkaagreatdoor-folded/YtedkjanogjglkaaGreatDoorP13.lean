/-
  Parts of the proof: RwWeight, RFit, RFit2, RFit3, RFit4, RFit5.
-/
import Derived.Test.YtedkjanogjglkaaGreatDoorP09
import Derived.Test.YtedkjanogjglkaaGreatDoorP12
set_option maxRecDepth 100000
set_option maxHeartbeats 4000000
namespace Go.Proofs.YtedkjanogjglkaaGreatDoor.Code
theorem sumV_nil : sumV [] = 0 := rfl
theorem sumV_app (a b : List Val) : sumV (a ++ b) = sumV a + sumV b := by
 induction a with
 | nil => simp [sumV_nil]
 | cons v a ih => rw [List.cons_append, sumV_cons, sumV_cons, ih]; omega
theorem sumV_filter (q : Val -> Bool) (l : List Val) : sumV (l.filter q) <= sumV l := by
 induction l with
 | nil => simp
 | cons v l ih =>
  have := weightT_range v.thing
  rw [List.filter_cons]
  split
  ·rw [sumV_cons, sumV_cons]; omega
  ·rw [sumV_cons]; omega
theorem sumB_nil : sumB [] = 0 := rfl
theorem sweep1_le (u : List Blk) : ∀ l : List Blk, sumB (l.map fun b => (⟨b.values.filter (keepsV u), b.last⟩ : Blk)) <= sumB l
 | [] => by simp
 | b :: l => by
  rw [List.map_cons, sumB_cons, sumB_cons]
  have := sweep1_le u l
  have := sumV_filter (keepsV u) b.values
  simp only at *
  omega
theorem sweepF_le : ∀ (n : Nat) (bks : List Blk), sumB (sweepF n bks) <= sumB bks
 | 0, bks => Int.le_refl _
 | n + 1, bks => by
  rw [sweepF]
  have h := sweep1_le bks bks
  split
  ·exact h
  ·exact Int.le_trans (sweepF_le n _) h
theorem sweep_le (bks : List Blk) : sumB (sweep bks) <= sumB bks := sweepF_le _ _
theorem ren_weight (a b : Nat) (t : Thing) : weightT (renT a b t) = weightT t := by cases t <;> rfl
theorem renV_sum (a b : Nat) : ∀ l : List Val, sumV (l.map fun v => (⟨v.num, renT a b v.thing⟩ : Val)) = sumV l
 | [] => rfl
 | v :: l => by rw [List.map_cons, sumV_cons, sumV_cons, renV_sum a b l, ren_weight]
theorem renB_sum (a b : Nat) : ∀ l : List Blk, sumB (renB a b l) = sumB l
 | [] => rfl
 | k :: l => by
  have := renB_sum a b l
  rw [renB, List.map_cons, sumB_cons, sumB_cons]
  rw [renB] at this
  rw [this, renV_sum]
theorem putB_sum (k : Nat) (new : List Val) : ∀ (bks : List Blk) (i : Nat) (hi : i < bks.length) (hk : k < (bks[i]).values.length),
  sumB (putB i k new bks) + weightT ((bks[i]).values[k]).thing = sumB bks + sumV new
 | b :: bks, 0, _, hk => by
  simp only [putB, List.modify_zero_cons, List.getElem_cons_zero] at hk ⊢
  rw [sumB_cons, sumB_cons, sumV_app, sumV_app]
  have e : sumV b.values = sumV (b.values.take k) + (weightT (b.values[k]).thing + sumV (b.values.drop (k + 1))) := by
   rw [<- sumV_cons, <- List.drop_eq_getElem_cons hk, <- sumV_app, List.take_append_drop]
  rw [e]; omega
 | b :: bks, i + 1, hi, hk => by
  simp only [List.getElem_cons_succ] at hk ⊢
  have := putB_sum k new bks i (by simpa using hi) hk
  simp only [putB, List.modify_succ_cons] at this ⊢
  rw [sumB_cons, sumB_cons]
  omega
mutual
theorem mkVal_sum (th : Nat -> Option Thing) (kn : Known) : ∀ (t : RTree) (m : Mk), sumV (mkVal th kn t m).2.made = sumV m.made + t.heavy
 | .name w, m => by simp [mkVal, RTree.heavy]
 | .op k kids, m => by
  simp only [mkVal, Mk.put, RTree.heavy]
  rw [sumV_app, mkAll_sum th kn kids m, sumV_cons, sumV_nil]
  show _ + (opW k + 0) = _
  omega
 | .hash w, m => by simp only [mkVal, Mk.put, RTree.heavy]; rw [sumV_app, sumV_cons, sumV_nil]; rfl
 | .num c, m => by simp only [mkVal, Mk.put, RTree.heavy]; rw [sumV_app, sumV_cons, sumV_nil]; rfl
 | .fold k kids, m => by simp only [mkVal, Mk.put, RTree.heavy]; rw [sumV_app, sumV_cons, sumV_nil]; rfl
theorem mkAll_sum (th : Nat -> Option Thing) (kn : Known) : ∀ (l : List RTree) (m : Mk), sumV (mkAll th kn l m).2.made = sumV m.made + heavyAll l
 | [], m => by simp [mkAll, heavyAll]
 | t :: l, m => by
  simp only [mkAll, heavyAll]
  rw [mkAll_sum th kn l, mkVal_sum th kn t]
  omega
end
theorem mkThing_sum (th : Nat -> Option Thing) (kn : Known) (t : RTree) (ht : ∀ w, t ≠ .name w) (m : Mk) : sumV (mkThing th kn t m).2.made + weightT (mkThing th kn t m).1 = sumV m.made + t.heavy := by
 cases t with
 | name w => exact absurd rfl (ht w)
 | op k kids =>
  simp only [mkThing, RTree.heavy, weightT]
  rw [mkAll_sum]; omega
 | hash w => simp [mkThing, RTree.heavy, weightT]
 | num c => simp [mkThing, RTree.heavy, weightT]
 | fold k kids => simp [mkThing, RTree.heavy, weightT]
theorem step_lighter {bks next : List Blk} {p : Pair} {v : Val} {kn : Known} {j : Nat} {of : List Nat} (hi : p.block < bks.length) (hk : p.index < (bks[p.block]).values.length) (hv : (bks[p.block]).values[p.index] = v) (ht : v.thing = .apply j of) (hh : p.rule.result.heavy < opW j)
  (h : stepB1 bks p v.num kn = some next) : sumB next < sumB bks := by
 have hput : ∀ new, sumB (putB p.block p.index new bks) + opW j = sumB bks + sumV new := fun new => by
  have := putB_sum p.index new bks p.block hi hk
  rw [hv, ht] at this
  exact this
 unfold stepB1 at h
 split at h
 ·rename_i w hw
  rw [hw] at hh
  simp only [Option.some.injEq] at h
  subst h
  refine Int.lt_of_le_of_lt (sweep_le _) ?_
  rw [renB_sum]
  have := hput []
  rw [sumV_nil] at this
  simp only [RTree.heavy] at hh
  omega
 ·rename_i t hn
  split at h
  ·cases h
  ·simp only [Option.some.injEq] at h
   subst h
   refine Int.lt_of_le_of_lt (sweep_le _) ?_
   have h1 := hput ((mkThing (things bks) kn p.rule.result ⟨[], 0⟩).2.made ++ [⟨v.num, (mkThing (things bks) kn p.rule.result ⟨[], 0⟩).1⟩])
   have h2 := mkThing_sum (things bks) kn p.rule.result hn ⟨[], 0⟩
   rw [sumV_app, sumV_cons, sumV_nil] at h1
   simp only [sumV_nil] at h1 h2
   omega
end Go.Proofs.YtedkjanogjglkaaGreatDoor.Code
namespace Go.Proofs.YtedkjanogjglkaaGreatDoor
open Go.RowKit
open Go.Proofs.YtedkjanogjglkaaGreatDoor.Code (RTree Nm RSt Prs CRule)
namespace Code
def slotIx (ns : List Nm) (x : List UInt8) : Nat := (slotAt ns x).getD 0
mutual
def trav (ns : List Nm) : RTree -> Nat -> Option Nat
 | .name x, m => if slotIx ns x = m then some (m + 1) else if slotIx ns x < m then some m else none
 | .hash x, m => if slotIx ns x = m then some (m + 1) else if slotIx ns x < m then some m else none
 | .num _, m => some m
 | .op _ kids, m => travAll ns kids m
 | .fold _ _, _ => none
def travAll (ns : List Nm) : List RTree -> Nat -> Option Nat
 | [], m => some m
 | t :: l, m => (trav ns t m).bind fun m' => travAll ns l m'
end
def firstOf (of : List Nat) (i n : Nat) : List Nat := if i = of.length then of ++ [n] else of
mutual
def cfits (th : Nat -> Option Thing) (ns : List Nm) : RTree -> Nat -> List Nat -> Option (List Nat)
 | .num c, n, of => if constOf th n = some c then some of else none
 | .name x, n, of => if (firstOf of (slotIx ns x) n)[slotIx ns x]? = some n then some (firstOf of (slotIx ns x) n) else none
 | .hash x, n, of => match constOf th n with
  | none => none
  | some c => if (constOf th ((firstOf of (slotIx ns x) n)[slotIx ns x]?.getD 0)).getD 0 = c then some (firstOf of (slotIx ns x) n) else none
 | .op k kids, n, of => match th n with
  | some (.apply j args) => if j = k then cfitsAll th ns kids args of else none
  | _ => none
 | .fold _ _, _, _ => none
def cfitsAll (th : Nat -> Option Thing) (ns : List Nm) : List RTree -> List Nat -> List Nat -> Option (List Nat)
 | [], _, of => some of
 | _ :: _, [], _ => none
 | t :: l, n :: args, of => (cfits th ns t n of).bind fun of' => cfitsAll th ns l args of'
end
end Code
def ThV (w : World) : Option Code.Thing -> Value -> Prop
 | none, v => v = .nilIface
 | some t, v => ThingV w 0 t v
def ThArr (w : World) (tb : Nat) (th : Nat -> Option Code.Thing) : Prop :=
 ∃ tv : List Value, w.heap[tb]? = some (.cells tv.toArray 216) /\ tv.length = 60 /\ ∀ n (h : n < tv.length), ThV w (th n) tv[n]
def ThOk (th : Nat -> Option Code.Thing) : Prop := ∀ n t, th n = some t -> match t with
 | .apply k args => k < 13 /\ args.length = Code.opOf k /\ ∀ x ∈ args, x < 60
 | .const c => -2147483648 <= c /\ c < 2147483648
 | _ => True
def FitR (w : World) (fb tb B : Nat) (of : List Nat) : Prop :=
 ∃ ov, w.heap[fb]? = some (.cells #[.pointer (some ⟨tb, 0, none⟩), ov] 220) /\ w.ownsRow B 3 1 ov of.length (nats of)
theorem ThArr.cell {w0 w : World} {tb B : Nat} {th : Nat -> Option Code.Thing} (h : ThArr w0 tb th) (hB : w0.heap.size = B) (hb : Below B w0 w) (n : Nat) (hn : n < 60) : ∃ v, w.cell? ⟨tb, n, none⟩ = some v /\ ThV w0 (th n) v := by
 obtain ⟨tv, h1, h2, h3⟩ := h
 have hlt := lt_of_block h1
 have h1' : w.heap[tb]? = some (.cells tv.toArray 216) := (hb.block tb (by omega)).trans h1
 refine ⟨tv[n], blk_cell h1' n _ (by simp [h2, hn]), h3 n (by omega)⟩
theorem isConst_nil (w : World) : (Instr.typeAssert .nilIface 167 236 true).run Tryz.prog w = .ok (.tuple #[.agg #[.int .i32 0], .bool false]) w := by kernel_rfl
theorem isApply_nil (w : World) : (Instr.typeAssert .nilIface 167 238 true).run Tryz.prog w = .ok (.tuple #[.agg #[.int .i64 0, .slice none 0 0], .bool false]) w := by kernel_rfl
def constPost (o : Option Int) : Value := match o with
 | some c => .tuple #[.int .i32 c, .bool true]
 | none => .tuple #[.int .i32 0, .bool false]
theorem constantAt_any (w0 : World) (th : Nat -> Option Code.Thing) (fb tb B : Nat) (n : Nat) (w : World) (hth : ThArr w0 tb th) (hB : w0.heap.size = B) (hb : Below B w0 w) (c0 : w.cell? ⟨fb, 0, none⟩ = some (.pointer (some ⟨tb, 0, none⟩))) (hn : n < 60) :
  Calls Tryz.prog 206 #[.pointer (some ⟨fb, 0, none⟩), .int .i64 (n : Nat)] w fun e w' => e = .returned (constPost (Code.constOf th n)) /\ Below w.heap.size w w' := by
 obtain ⟨v, hc, hv⟩ := hth.cell hB hb n hn
 have hn' : (n : Int) < 60 := by omega
 clear hth hB
 cases ht : th n with
 | none =>
  rw [ht] at hv
  have hv' : v = .nilIface := hv
  subst hv'
  have HC : Hid (Code.constOf th n = none) := by simp [Hid, Code.constOf, ht]
  have h1 := isConst_nil
  clear ht hv
  go_enter Tryz.func206, Tryz.ntmps206
  go_wp2
  refine bodyPost_ret (v := .tuple #[.int .i32 0, .bool false]) (by simp [results, Tryz.results206, go_sem]) rfl ?_
  exact ⟨by rw [HC.out]; rfl, Below.refl _ _⟩
 | some t =>
  rw [ht] at hv
  cases t with
  | phi of' =>
   obtain ⟨r, rfl, hr⟩ := hv
   have HC : Hid (Code.constOf th n = none) := by simp [Hid, Code.constOf, ht]
   have h1 := isConst_phi
   clear ht hr
   go_enter Tryz.func206, Tryz.ntmps206
   go_wp2
   refine bodyPost_ret (v := .tuple #[.int .i32 0, .bool false]) (by simp [results, Tryz.results206, go_sem]) rfl ?_
   exact ⟨by rw [HC.out]; rfl, Below.refl _ _⟩
  | arg m =>
   have hv' : v = _ := hv
   subst hv'
   have HC : Hid (Code.constOf th n = none) := by simp [Hid, Code.constOf, ht]
   have h1 := isConst_arg
   clear ht hv
   go_enter Tryz.func206, Tryz.ntmps206
   go_wp2
   refine bodyPost_ret (v := .tuple #[.int .i32 0, .bool false]) (by simp [results, Tryz.results206, go_sem]) rfl ?_
   exact ⟨by rw [HC.out]; rfl, Below.refl _ _⟩
  | const c =>
   have hv' : v = _ := hv
   subst hv'
   have HC : Hid (Code.constOf th n = some c) := by simp [Hid, Code.constOf, ht]
   have h1 := isConst_const
   clear ht hv
   go_enter Tryz.func206, Tryz.ntmps206
   go_wp2
   refine bodyPost_ret (v := .tuple #[.int .i32 c, .bool true]) (by simp [results, Tryz.results206, go_sem]) rfl ?_
   exact ⟨by rw [HC.out]; rfl, below_al (Below.refl _ _) _⟩
  | apply k of' =>
   obtain ⟨r, rfl, hr⟩ := hv
   have HC : Hid (Code.constOf th n = none) := by simp [Hid, Code.constOf, ht]
   have h1 := isConst_apply
   clear ht hr
   go_enter Tryz.func206, Tryz.ntmps206
   go_wp2
   refine bodyPost_ret (v := .tuple #[.int .i32 0, .bool false]) (by simp [results, Tryz.results206, go_sem]) rfl ?_
   exact ⟨by rw [HC.out]; rfl, Below.refl _ _⟩
theorem constant_any (w0 : World) (th : Nat -> Option Code.Thing) (fb tb B : Nat) (of : List Nat) (n : Nat) (w : World) (hth : ThArr w0 tb th) (hB : w0.heap.size = B) (hb : Below B w0 w) (hf : FitR w fb tb B of) (hn : n < 60) :
  Calls Tryz.prog 206 #[.pointer (some ⟨fb, 0, none⟩), .int .i64 (n : Nat)] w fun e w' => e = .returned (constPost (Code.constOf th n)) /\ Below w.heap.size w w' := by
 obtain ⟨ov, hx, _⟩ := hf
 exact constantAt_any w0 th fb tb B n w hth hB hb (blk_cell hx 0 _ rfl) hn
structure KinF (w w' : World) (fb B : Nat) : Prop where
 os : w'.os = w.os
 tape : w'.tape = w.tape
 output : w'.output = w.output
 size : w.heap.size <= w'.heap.size
 block : ∀ k o, w.heap[k]? = some o -> k ≠ fb -> (k < B \/ ∀ C z, o ≠ .cells C 3 z) -> w'.heap[k]? = some o
theorem KinF.trans {a b c : World} {fb B : Nat} (h : KinF a b fb B) (k : KinF b c fb B) : KinF a c fb B :=
 ⟨k.os.trans h.os, k.tape.trans h.tape, k.output.trans h.output, Nat.le_trans h.size k.size, fun i o hi hn ht => k.block i o (h.block i o hi hn ht) hn ht⟩
theorem KinF.below {w w' : World} {fb B : Nat} (h : Below w.heap.size w w') : KinF w w' fb B :=
 ⟨h.os, h.tape, h.output, h.size, fun k _ hk _ _ => (h.block k (lt_of_block hk)).trans hk⟩
theorem KinF.down {w0 w w' : World} {fb B : Nat} (hB : w0.heap.size = B) (hb : Below B w0 w) (h : KinF w w' fb B) (hfb : B <= fb) : Below B w0 w' := by
 refine ⟨h.os.trans hb.os, h.tape.trans hb.tape, h.output.trans hb.output, Nat.le_trans hb.size h.size, fun q hq => ?_⟩
 have h1 : w0.heap[q]? = some (w0.heap[q]'(by omega)) := Array.getElem?_eq_getElem (by omega)
 rw [h1]
 exact h.block q _ ((hb.block q hq).trans h1) (by omega) (Or.inl hq)
theorem KinF.set {w : World} {fb B o : Nat} {v : Value} : KinF w (w.setCell ⟨fb, o, none⟩ v) fb B :=
 ⟨rfl, rfl, rfl, by rw [size_set]; exact Nat.le_refl _, fun _ _ hk hn _ => stay_set hk hn⟩
theorem KinF.grown {w w3 : World} {fb B base size n : Nat} {v : Value} {xs : List Value} (h : w.ownsRow base 3 size v n xs) (hB : B <= base) (hg : w.grownBy w3 v.ownBlock) : KinF w w3 fb B := by
 refine ⟨hg.os, hg.tape, hg.output, hg.size, fun k o hk _ ht => ?_⟩
 rw [hg.block k (lt_of_block hk) (fun e => ?_)]
 ·exact hk
 ·rcases ht with ht | ht
  ·have := (h.lt k e.symm).1; omega
  ·rcases h.2 with ⟨h3, _⟩ | ⟨g3, c3', cur3, h3, h4, h5, _⟩
   ·rw [h3] at e; cases e
   ·rw [h3] at e
    simp only [Value.ownBlock, Option.some.injEq] at e
    subst e
    rw [hk] at h5
    simp only [Option.some.injEq] at h5
    exact ht _ _ h5
theorem nats_get' (l : List Nat) (i : Nat) (h : i < l.length) : (nats l)[i]? = some (.int .i64 (l[i] : Nat)) := by simp [nats, h]
theorem first_any (fb tb B : Nat) (of : List Nat) (i n : Nat) (w : World) (hz : B <= w.heap.size) (hf : FitR w fb tb B of) (hi : i <= of.length) (hol : of.length <= 6000) :
  Calls Tryz.prog 205 #[.pointer (some ⟨fb, 0, none⟩), .int .i64 (i : Nat), .int .i64 (n : Nat)] w fun e w' => e = .returned (.int .i64 ((Code.firstOf of i n)[i]?.getD 0 : Nat)) /\ FitR w' fb tb B (Code.firstOf of i n) /\ KinF w w' fb B := by
 obtain ⟨i0, hii, hz0, hz1, hz2⟩ := info_parts infoInt
 obtain ⟨ov, hx, hown⟩ := hf
 obtain ⟨op, oc, rfl⟩ := own_slice hown
 have c1 := blk_cell hx 1 _ rfl
 have z1 := blk_froz hx 1
 have hfl := lt_of_block hx
 have hcap : of.length <= oc := own_cap hown
 by_cases he : i = of.length
 ·have HF : Hid (Code.firstOf of i n = of ++ [n]) := by simp [Hid, Code.firstOf, he]
  subst he
  have HG : Hid ((of ++ [n])[of.length]?.getD 0 = n) := by simp [Hid]
  have HX := hide hx
  have HOWN := hide hown
  go_enter Tryz.func205, Tryz.ntmps205
  go_wp2_with (first | (at_builtin; refine wpList_append_own _ rfl _ _ 31 rfl B 3 i0 (.int .i64 0) 1 8 Tryz.underlying31 hii hz0 hz1 hz2 rfl (by decide) _ _ _ rfl (hown.alloc _) ⟨_, 0, none⟩ 1 1 [.int .i64 (n : Nat)] rfl rfl (cell_one_new _ _ _) (fun x hx => by simp at hx; subst hx; rfl) (by unfold maxLen; omega) (by omega) (by simp; omega) ?_; intro v' w3 hown' hgrow hnil; obtain ⟨vp, vc, rfl⟩ := own_slice hown'; have hx3 : w3.heap[fb]? = some (.cells #[.pointer (some ⟨tb, 0, none⟩), .slice op of.length oc] 220) := stay_grown (hown.alloc _) hgrow (stay_alloc hx) (by decide); have d1 := blk_cell hx3 1 _ rfl; have y1 := blk_froz hx3 1; obtain ⟨g3, cap3, hge3, _, hgl3, hcell3⟩ := row_open hown' (by omega); simp only [Value.slice.injEq] at hge3; obtain ⟨rfl, _, rfl⟩ := hge3; have e3 := hcell3 of.length (.int .i64 (n : Nat)) (by simp [nats]); have hne3 : g3 ≠ fb := (fun hh => by have h5 := own_ne hown' hx3 (by decide); exact h5 (by rw [<- hh]; rfl)); have hil3 : (of.length : Int) < ((of.length + 1 : Nat) : Int) := (by omega); clear hcell3))
  go_ret
  refine ⟨ret_int (by rw [HF.out, HG.out]), ?_, ?_⟩
  ·rw [HF.out]
   refine ⟨_, set_block hx3, ?_⟩
   have h4 := own_set (o := 1) (u := .slice (some ⟨g3, 0, none⟩) (of.length + 1) vc) hown' hx3 (by decide)
   rw [nats_snoc, List.length_append]
   exact h4
  ·exact ((KinF.below (below_al (Below.refl _ _) _)).trans (KinF.grown (hown.alloc _) (Nat.le_refl _) hgrow)).trans KinF.set
 ·have hlt : i < of.length := by omega
  have HF : Hid (Code.firstOf of i n = of) := by simp [Hid, Code.firstOf, he]
  obtain ⟨g, cap, hge, _, _, hcell⟩ := row_open hown (by omega)
  simp only [Value.slice.injEq] at hge
  obtain ⟨rfl, _, rfl⟩ := hge
  have e0 := hcell i _ (nats_get' of i hlt)
  have HG : Hid (of[i]?.getD 0 = of[i]) := by simp [Hid, hlt]
  have hne : ((i : Int) == (of.length : Int)) = false := beq_eq_false_iff_ne.2 (by omega)
  have hne2 : (i == of.length) = false := beq_eq_false_iff_ne.2 he
  have hil : (i : Int) < (of.length : Int) := by omega
  have HX : Hid (FitR w fb tb B of) := ⟨_, hx, hown⟩
  clear hcell hown hx
  go_enter Tryz.func205, Tryz.ntmps205
  go_wp2
  go_ret
  exact ⟨ret_int (by rw [HF.out, HG.out]), by rw [HF.out]; exact HX.out, KinF.below (Below.refl _ _)⟩
theorem pNm_name (v : Value) (w : World) : (Instr.typeAssert (.iface 225 v) 262 225 true).run Tryz.prog w = .ok (.tuple #[v, .bool true]) w := by kernel_rfl
theorem pNm_hash (v : Value) (w : World) : (Instr.typeAssert (.iface 316 v) 262 225 true).run Tryz.prog w = .ok (.tuple #[.agg #[.int .i64 0], .bool false]) w := by kernel_rfl
theorem pNm_num (v : Value) (w : World) : (Instr.typeAssert (.iface 313 v) 262 225 true).run Tryz.prog w = .ok (.tuple #[.agg #[.int .i64 0], .bool false]) w := by kernel_rfl
theorem pNm_node (v : Value) (w : World) : (Instr.typeAssert (.iface 119 v) 262 225 true).run Tryz.prog w = .ok (.tuple #[.agg #[.int .i64 0], .bool false]) w := by kernel_rfl
theorem pHs_hash (v : Value) (w : World) : (Instr.typeAssert (.iface 316 v) 262 316 true).run Tryz.prog w = .ok (.tuple #[v, .bool true]) w := by kernel_rfl
theorem pHs_num (v : Value) (w : World) : (Instr.typeAssert (.iface 313 v) 262 316 true).run Tryz.prog w = .ok (.tuple #[.agg #[.int .i64 0], .bool false]) w := by kernel_rfl
theorem pHs_node (v : Value) (w : World) : (Instr.typeAssert (.iface 119 v) 262 316 true).run Tryz.prog w = .ok (.tuple #[.agg #[.int .i64 0], .bool false]) w := by kernel_rfl
theorem pNu_num (v : Value) (w : World) : (Instr.typeAssert (.iface 313 v) 262 313 true).run Tryz.prog w = .ok (.tuple #[v, .bool true]) w := by kernel_rfl
theorem pNu_node (v : Value) (w : World) : (Instr.typeAssert (.iface 119 v) 262 313 true).run Tryz.prog w = .ok (.tuple #[.agg #[.int .i32 0], .bool false]) w := by kernel_rfl
theorem pNd_node (v : Value) (w : World) : (Instr.typeAssert (.iface 119 v) 262 119 true).run Tryz.prog w = .ok (.tuple #[v, .bool true]) w := by kernel_rfl
def DistW (ns : List Nm) : Prop := ∀ i p, ns[i]? = some p -> Code.slotAt ns p.1 = some i
def FitPost (o : Option (List Nat)) (m' fb tb B : Nat) (w : World) (e : Ending) (w' : World) : Prop :=
 KinF w w' fb B /\ ((∃ of', o = some of' /\ of'.length = m' /\ (∀ x ∈ of', x < 60) /\ e = .returned (.bool true) /\ FitR w' fb tb B of') \/ (o = none /\ e = .returned (.bool false) /\ ∃ of', FitR w' fb tb B of'))
structure FitIn (w0 w : World) (th : Nat -> Option Code.Thing) (ns : List Nm) (fb tb B : Nat) (of : List Nat) : Prop where
 hth : ThArr w0 tb th
 ok : ThOk th
 hB : w0.heap.size = B
 hb : Below B w0 w
 hf : FitR w fb tb B of
 hfb : B <= fb
 dist : DistW ns
 of60 : ∀ x ∈ of, x < 60
theorem FitR.below {w w' : World} {fb tb B : Nat} {of : List Nat} (h : FitR w fb tb B of) (hb : Below w.heap.size w w') : FitR w' fb tb B of := by
 obtain ⟨ov, h1, h2⟩ := h
 exact ⟨ov, (hb.block fb (lt_of_block h1)).trans h1, own_below h2 hb⟩
theorem FitIn.next {w0 w w1 : World} {th : Nat -> Option Code.Thing} {ns : List Nm} {fb tb B : Nat} {of : List Nat} (h : FitIn w0 w th ns fb tb B of) (hb : Below w.heap.size w w1) : FitIn w0 w1 th ns fb tb B of :=
 ⟨h.hth, h.ok, h.hB, h.hb.trans (hb.mono (by have := h.hb.size; have := h.hB; omega)), h.hf.below hb, h.hfb, h.dist, h.of60⟩
theorem FitIn.top {w0 w : World} {th : Nat -> Option Code.Thing} {ns : List Nm} {fb tb B : Nat} {of : List Nat} (h : FitIn w0 w th ns fb tb B of) : B <= w.heap.size := by
 have := h.hb.size
 have := h.hB
 omega
theorem FitIn.step {w0 w w1 : World} {th : Nat -> Option Code.Thing} {ns : List Nm} {fb tb B : Nat} {of of' : List Nat} (h : FitIn w0 w th ns fb tb B of) (hk : KinF w w1 fb B) (hf : FitR w1 fb tb B of') (h6 : ∀ x ∈ of', x < 60) : FitIn w0 w1 th ns fb tb B of' :=
 ⟨h.hth, h.ok, h.hB, hk.down h.hB h.hb h.hfb, hf, h.hfb, h.dist, h6⟩
def FitC (t : RTree) : Prop := ∀ (w0 w : World) (th : Nat -> Option Code.Thing) (ns : List Nm) (fb tb B base : Nat) (of : List Nat) (pv : Value) (n m' : Nat), FitIn w0 w th ns fb tb B of -> RepT w0 base false (LP ⟨ns, false⟩) pv t -> Code.trav ns t of.length = some m' -> m' <= 6000 -> n < 60 ->
 Calls Tryz.prog 169 #[.pointer (some ⟨fb, 0, none⟩), pv, .int .i64 (n : Nat)] w fun e w' => FitPost (Code.cfits th ns t n of) m' fb tb B w e w'
theorem slot_ix {ns : List Nm} (hd : DistW ns) {i : Nat} {p : Nm} (h : ns[i]? = some p) : Code.slotIx ns p.1 = i := by simp [Code.slotIx, hd i p h]
theorem firstOf_len {of : List Nat} {i n : Nat} (_hi : i <= of.length) : (Code.firstOf of i n).length = if i = of.length then of.length + 1 else of.length := by
 unfold Code.firstOf
 split <;> simp
theorem firstOf_60 {of : List Nat} {i n : Nat} (h : ∀ x ∈ of, x < 60) (hn : n < 60) : ∀ x ∈ Code.firstOf of i n, x < 60 := by
 unfold Code.firstOf
 split
 ·intro x hx
  rcases List.mem_append.1 hx with hx | hx
  ·exact h x hx
  ·simp at hx; omega
 ·exact h
theorem fit_name (x : List UInt8) : FitC (.name x) := by
 intro w0 w th ns fb tb B base of pv n m' hin hrep htr hm hn
 obtain ⟨i, rfl, k, rfl, hk⟩ := hrep
 have hix := slot_ix hin.dist hk
 simp only at hix
 have htr' : k <= of.length /\ m' = (Code.firstOf of k n).length := by
  simp only [Code.trav, hix] at htr
  split at htr
  ·rename_i h
   simp only [Option.some.injEq] at htr
   exact ⟨by omega, by rw [firstOf_len (by omega), if_pos h]; omega⟩
  ·split at htr
   ·rename_i h1 h2
    simp only [Option.some.injEq] at htr
    exact ⟨by omega, by rw [firstOf_len (by omega), if_neg h1]; omega⟩
   ·cases htr
 have h60 := firstOf_60 (i := k) hin.of60 hn
 have hlen : of.length <= 6000 := by
  have := firstOf_len (n := n) htr'.1
  split at this <;> omega
 have HFI : Hid (∀ w1, Below w.heap.size w w1 -> Calls Tryz.prog 205 #[.pointer (some ⟨fb, 0, none⟩), .int .i64 (k : Nat), .int .i64 (n : Nat)] w1 fun e w' => e = .returned (.int .i64 ((Code.firstOf of k n)[k]?.getD 0 : Nat)) /\ FitR w' fb tb B (Code.firstOf of k n) /\ KinF w1 w' fb B) := hide fun w1 hb1 => first_any fb tb B of k n w1 (hin.next hb1).top (hin.next hb1).hf htr'.1 hlen
 have HCF : Hid (Code.cfits th ns (.name x) n of = if (Code.firstOf of k n)[k]? = some n then some (Code.firstOf of k n) else none) := by simp only [Hid, Code.cfits, hix]
 have hkl : k < (Code.firstOf of k n).length := by
  rw [firstOf_len htr'.1]
  split <;> omega
 have HML := hide htr'.2
 have HH60 := hide h60
 have t1 := pNm_name (.agg #[.int .i64 (k : Nat)])
 clear hin htr htr' h60 hlen hk hix
 generalize Code.firstOf of k n = F at *
 have hgd : F[k]?.getD 0 = F[k] := by simp [hkl]
 rw [hgd] at HFI
 have hge : F[k]? = some F[k] := List.getElem?_eq_getElem hkl
 rw [hge] at HCF
 generalize F[k] = fk at *
 by_cases he : fk = n
 ·have HC : Hid (Code.cfits th ns (.name x) n of = some F) := by rw [HCF.out, if_pos (by rw [he])]; exact rfl
  subst he
  clear HCF hgd hge
  go_enter Tryz.func169, Tryz.ntmps169
  go_wp2_with fail
  refine (HFI.out _ (below_al (Below.refl _ _) _)).mono ?_
  rintro e w2 ⟨rfl, hf2, hb2⟩
  go_wp2
  go_ret
  exact ⟨(KinF.below (below_al (Below.refl _ _) _)).trans hb2, Or.inl ⟨F, HC.out, HML.out.symm, HH60.out, rfl, hf2⟩⟩
 ·have HC : Hid (Code.cfits th ns (.name x) n of = none) := by rw [HCF.out, if_neg (by simpa using he)]; exact rfl
  have h1 : ((fk : Int) == (n : Int)) = false := beq_eq_false_iff_ne.2 (by omega)
  have h2 : (fk == n) = false := beq_eq_false_iff_ne.2 he
  clear HCF hgd hge
  go_enter Tryz.func169, Tryz.ntmps169
  go_wp2_with fail
  refine (HFI.out _ (below_al (Below.refl _ _) _)).mono ?_
  rintro e w2 ⟨rfl, hf2, hb2⟩
  go_wp2
  go_ret
  exact ⟨(KinF.below (below_al (Below.refl _ _) _)).trans hb2, Or.inr ⟨HC.out, rfl, F, hf2⟩⟩
theorem fit_num (c : Int) : FitC (.num c) := by
 intro w0 w th ns fb tb B base of pv n m' hin hrep htr hm hn
 obtain ⟨rfl, hc1, hc2⟩ := hrep
 simp only [Code.trav, Option.some.injEq] at htr
 subst htr
 have HCO : Hid (∀ w1, Below w.heap.size w w1 -> Calls Tryz.prog 206 #[.pointer (some ⟨fb, 0, none⟩), .int .i64 (n : Nat)] w1 fun e w' => e = .returned (constPost (Code.constOf th n)) /\ Below w1.heap.size w1 w') := hide fun w1 hb1 => constant_any w0 th fb tb B of n w1 hin.hth hin.hB (hin.next hb1).hb (hin.next hb1).hf hn
 have HIN := hide hin
 have HCF : Hid (Code.cfits th ns (.num c) n of = if Code.constOf th n = some c then some of else none) := by simp only [Hid, Code.cfits]
 have t1 := pNm_num (.agg #[.int .i32 c])
 have t2 := pHs_num (.agg #[.int .i32 c])
 have t3 := pNu_num (.agg #[.int .i32 c])
 clear hin
 cases hco : Code.constOf th n with
 | none =>
  rw [hco] at HCF HCO
  have HC : Hid (Code.cfits th ns (.num c) n of = none) := by rw [HCF.out]; simp [Hid]
  clear hco HCF
  unfold constPost at HCO
  go_enter Tryz.func169, Tryz.ntmps169
  go_wp2_with fail
  refine (HCO.out _ (below_al (Below.refl _ _) _)).mono ?_
  rintro e w2 ⟨rfl, hb2⟩
  have hbw2 : Below w.heap.size w w2 := (below_al (Below.refl _ _) _).trans (hb2.mono (by simp))
  go_wp2
  go_ret
  exact ⟨KinF.below hbw2, Or.inr ⟨HC.out, rfl, of, (HIN.out.next hbw2).hf⟩⟩
 | some d =>
  rw [hco] at HCF HCO
  unfold constPost at HCO
  by_cases he : d = c
  ·have HC : Hid (Code.cfits th ns (.num c) n of = some of) := by rw [HCF.out, if_pos (by rw [he])]; exact rfl
   have h1 : (d == c) = true := beq_iff_eq.2 he
   clear hco HCF
   subst he
   go_enter Tryz.func169, Tryz.ntmps169
   go_wp2_with fail
   refine (HCO.out _ (below_al (Below.refl _ _) _)).mono ?_
   rintro e w2 ⟨rfl, hb2⟩
   have hbw2 : Below w.heap.size w w2 := (below_al (Below.refl _ _) _).trans (hb2.mono (by simp))
   have hk2 := kept_new hb2
   have d0 := blk_cell hk2 0 _ rfl
   go_wp2
   go_ret
   exact ⟨KinF.below hbw2, Or.inl ⟨of, HC.out, rfl, HIN.out.of60, rfl, (HIN.out.next hbw2).hf⟩⟩
  ·have HC : Hid (Code.cfits th ns (.num c) n of = none) := by rw [HCF.out, if_neg (by simpa using he)]; exact rfl
   have h1 : (d == c) = false := beq_eq_false_iff_ne.2 he
   clear hco HCF
   go_enter Tryz.func169, Tryz.ntmps169
   go_wp2_with fail
   refine (HCO.out _ (below_al (Below.refl _ _) _)).mono ?_
   rintro e w2 ⟨rfl, hb2⟩
   have hbw2 : Below w.heap.size w w2 := (below_al (Below.refl _ _) _).trans (hb2.mono (by simp))
   have hk2 := kept_new hb2
   have d0 := blk_cell hk2 0 _ rfl
   go_wp2
   go_ret
   exact ⟨KinF.below hbw2, Or.inr ⟨HC.out, rfl, of, (HIN.out.next hbw2).hf⟩⟩
theorem fit_hash (x : List UInt8) : FitC (.hash x) := by
 intro w0 w th ns fb tb B base of pv n m' hin hrep htr hm hn
 obtain ⟨i, rfl, k, rfl, hk⟩ := hrep
 have hix := slot_ix hin.dist hk
 simp only at hix
 have htr' : k <= of.length /\ m' = (Code.firstOf of k n).length := by
  simp only [Code.trav, hix] at htr
  split at htr
  ·rename_i h
   simp only [Option.some.injEq] at htr
   exact ⟨by omega, by rw [firstOf_len (by omega), if_pos h]; omega⟩
  ·split at htr
   ·rename_i h1 h2
    simp only [Option.some.injEq] at htr
    exact ⟨by omega, by rw [firstOf_len (by omega), if_neg h1]; omega⟩
   ·cases htr
 have h60 := firstOf_60 (i := k) hin.of60 hn
 have hlen : of.length <= 6000 := by
  have := firstOf_len (n := n) htr'.1
  split at this <;> omega
 have hkl : k < (Code.firstOf of k n).length := by
  rw [firstOf_len htr'.1]
  split <;> omega
 have hgd : (Code.firstOf of k n)[k]?.getD 0 = (Code.firstOf of k n)[k] := by simp [hkl]
 have hfk60 : (Code.firstOf of k n)[k] < 60 := h60 _ (List.getElem_mem hkl)
 have HFI : Hid (∀ w1, Below w.heap.size w w1 -> Calls Tryz.prog 205 #[.pointer (some ⟨fb, 0, none⟩), .int .i64 (k : Nat), .int .i64 (n : Nat)] w1 fun e w' => e = .returned (.int .i64 ((Code.firstOf of k n)[k] : Nat)) /\ FitR w' fb tb B (Code.firstOf of k n) /\ KinF w1 w' fb B) := hide fun w1 hb1 => by
  have h := first_any fb tb B of k n w1 (hin.next hb1).top (hin.next hb1).hf htr'.1 hlen
  rw [hgd] at h
  exact h
 have HCO : Hid (∀ w1, Below w.heap.size w w1 -> Calls Tryz.prog 206 #[.pointer (some ⟨fb, 0, none⟩), .int .i64 (n : Nat)] w1 fun e w' => e = .returned (constPost (Code.constOf th n)) /\ Below w1.heap.size w1 w') := hide fun w1 hb1 => constant_any w0 th fb tb B of n w1 hin.hth hin.hB (hin.next hb1).hb (hin.next hb1).hf hn
 have HC2 : Hid (∀ w1, KinF w w1 fb B -> FitR w1 fb tb B (Code.firstOf of k n) -> Calls Tryz.prog 206 #[.pointer (some ⟨fb, 0, none⟩), .int .i64 ((Code.firstOf of k n)[k] : Nat)] w1 fun e w' => e = .returned (constPost (Code.constOf th (Code.firstOf of k n)[k])) /\ Below w1.heap.size w1 w') := hide fun w1 hb1 hf1 => constant_any w0 th fb tb B _ _ w1 hin.hth hin.hB (hb1.down hin.hB hin.hb hin.hfb) hf1 hfk60
 have HCF : Hid (Code.cfits th ns (.hash x) n of = match Code.constOf th n with
  | none => none
  | some c => if (Code.constOf th (Code.firstOf of k n)[k]).getD 0 = c then some (Code.firstOf of k n) else none) := by
  simp only [Hid, Code.cfits, hix, hgd]
  try (cases Code.constOf th n <;> rfl)
 have HML := hide htr'.2
 have HH60 := hide h60
 have HIN := hide hin
 have hBz : B <= w.heap.size := by have := hin.hb.size; have := hin.hB; omega
 have t1 := pNm_hash (.agg #[.int .i64 (k : Nat)])
 have t2 := pHs_hash (.agg #[.int .i64 (k : Nat)])
 clear hin htr htr' h60 hlen hk hix hgd hfk60
 generalize Code.firstOf of k n = F at *
 generalize F[k] = fk at *
 cases hco : Code.constOf th n with
 | none =>
  rw [hco] at HCF HCO
  unfold constPost at HCO
  clear hco
  go_enter Tryz.func169, Tryz.ntmps169
  go_wp2_with fail
  refine (HCO.out _ (below_al (Below.refl _ _) _)).mono ?_
  rintro e w2 ⟨rfl, hb2⟩
  have hbw2 : Below w.heap.size w w2 := (below_al (Below.refl _ _) _).trans (hb2.mono (by simp))
  go_wp2
  go_ret
  exact ⟨KinF.below hbw2, Or.inr ⟨HCF.out, rfl, of, (HIN.out.next hbw2).hf⟩⟩
 | some c =>
  rw [hco] at HCF HCO
  have hcp : constPost (Code.constOf th fk) = .tuple #[.int .i32 ((Code.constOf th fk).getD 0), .bool (Code.constOf th fk).isSome] := by
   cases Code.constOf th fk <;> rfl
  rw [hcp] at HC2
  unfold constPost at HCO
  clear hco hcp
  generalize (Code.constOf th fk).getD 0 = d at *
  generalize (Code.constOf th fk).isSome = dz at *
  by_cases he : d = c
  ·have HC : Hid (Code.cfits th ns (.hash x) n of = some F) := by rw [HCF.out]; simp [Hid, he]
   clear HCF
   subst he
   go_enter Tryz.func169, Tryz.ntmps169
   go_wp2_with fail
   refine (HCO.out _ (below_al (Below.refl _ _) _)).mono ?_
   rintro e w2 ⟨rfl, hb2⟩
   have hbw2 : Below w.heap.size w w2 := (below_al (Below.refl _ _) _).trans (hb2.mono (by simp))
   have hk2 := kept_new hb2
   have d0 := blk_cell hk2 0 _ rfl
   go_wp2_with fail
   refine (HFI.out w2 hbw2).mono ?_
   rintro e w3 ⟨rfl, hf3, hb3⟩
   go_wp2_with fail
   refine (HC2.out w3 ((KinF.below hbw2).trans hb3) hf3).mono ?_
   rintro e w4 ⟨rfl, hb4⟩
   go_wp2
   go_ret
   exact ⟨((KinF.below hbw2).trans hb3).trans (KinF.below hb4), Or.inl ⟨F, HC.out, HML.out.symm, HH60.out, rfl, hf3.below hb4⟩⟩
  ·have HC : Hid (Code.cfits th ns (.hash x) n of = none) := by rw [HCF.out]; simp [Hid, he]
   have h1 : (d == c) = false := beq_eq_false_iff_ne.2 he
   clear HCF
   go_enter Tryz.func169, Tryz.ntmps169
   go_wp2_with fail
   refine (HCO.out _ (below_al (Below.refl _ _) _)).mono ?_
   rintro e w2 ⟨rfl, hb2⟩
   have hbw2 : Below w.heap.size w w2 := (below_al (Below.refl _ _) _).trans (hb2.mono (by simp))
   have hk2 := kept_new hb2
   have d0 := blk_cell hk2 0 _ rfl
   go_wp2_with fail
   refine (HFI.out w2 hbw2).mono ?_
   rintro e w3 ⟨rfl, hf3, hb3⟩
   go_wp2_with fail
   refine (HC2.out w3 ((KinF.below hbw2).trans hb3) hf3).mono ?_
   rintro e w4 ⟨rfl, hb4⟩
   go_wp2
   go_ret
   exact ⟨((KinF.below hbw2).trans hb3).trans (KinF.below hb4), Or.inr ⟨HC.out, rfl, F, hf3.below hb4⟩⟩
theorem node_no (w0 w : World) (th : Nat -> Option Code.Thing) (ns : List Nm) (fb tb B : Nat) (of : List Nat) (k n m' : Nat) (sv : Value) (kids : List RTree) (hin : FitIn w0 w th ns fb tb B of) (hsv : ∃ p m c, sv = .slice p m c) (hn : n < 60) (hno : ∀ args, th n ≠ some (.apply k args)) :
  Calls Tryz.prog 207 #[.pointer (some ⟨fb, 0, none⟩), .agg #[.int .i64 (k : Nat), sv], .int .i64 (n : Nat)] w fun e w' => FitPost (Code.cfits th ns (.op k kids) n of) m' fb tb B w e w' := by
 obtain ⟨sp, sn, sc, rfl⟩ := hsv
 obtain ⟨ov, hx, _⟩ := hin.hf
 obtain ⟨v, hc, hv⟩ := hin.hth.cell hin.hB hin.hb n hn
 have c0 := blk_cell hx 0 _ rfl
 have hfl := lt_of_block hx
 have htl : tb < w.heap.size := by
  cases hh : w.heap[tb]? with
  | none => simp [World.cell?, hh] at hc
  | some o => exact lt_of_block hh
 have hn' : (n : Int) < 60 := by omega
 have HIN := hide hin
 clear hin hx
 have hcf : Hid (Code.cfits th ns (.op k kids) n of = none) := by
  simp only [Hid, Code.cfits]
  cases ht : th n with
  | none => rfl
  | some t =>
   cases t with
   | apply j args =>
    have : ¬ j = k := fun e => hno args (by rw [ht, e])
    simp [this]
   | _ => rfl
 cases ht : th n with
 | none =>
  rw [ht] at hv
  have hv' : v = .nilIface := hv
  subst hv'
  have h1 := isApply_nil
  clear ht hv hno
  go_enter Tryz.func207, Tryz.ntmps207
  go_wp2
  go_ret
  exact ⟨KinF.below (below_al (Below.refl _ _) _), Or.inr ⟨hcf.out, rfl, of, (HIN.out.next (below_al (Below.refl _ _) _)).hf⟩⟩
 | some t =>
  rw [ht] at hv
  cases t with
  | phi of' =>
   obtain ⟨r, rfl, hr⟩ := hv
   have h1 := isApply_phi
   clear ht hr hno
   go_enter Tryz.func207, Tryz.ntmps207
   go_wp2
   go_ret
   exact ⟨KinF.below (below_al (Below.refl _ _) _), Or.inr ⟨hcf.out, rfl, of, (HIN.out.next (below_al (Below.refl _ _) _)).hf⟩⟩
  | arg m =>
   have hv' : v = _ := hv
   subst hv'
   have h1 := isApply_arg
   clear ht hv hno
   go_enter Tryz.func207, Tryz.ntmps207
   go_wp2
   go_ret
   exact ⟨KinF.below (below_al (Below.refl _ _) _), Or.inr ⟨hcf.out, rfl, of, (HIN.out.next (below_al (Below.refl _ _) _)).hf⟩⟩
  | const c =>
   have hv' : v = _ := hv
   subst hv'
   have h1 := isApply_const
   clear ht hv hno
   go_enter Tryz.func207, Tryz.ntmps207
   go_wp2
   go_ret
   exact ⟨KinF.below (below_al (Below.refl _ _) _), Or.inr ⟨hcf.out, rfl, of, (HIN.out.next (below_al (Below.refl _ _) _)).hf⟩⟩
  | apply j args =>
   obtain ⟨r, rfl, hr⟩ := hv
   obtain ⟨rp, rc, rfl⟩ := own_slice hr
   have h1 := isApply_apply
   have hjk : j ≠ k := fun e => hno args (by rw [ht, e])
   have h2 : ((j : Int) == (k : Int)) = false := beq_eq_false_iff_ne.2 (by omega)
   have h3 : (j == k) = false := beq_eq_false_iff_ne.2 hjk
   have h4 : ¬ (j : Int) = (k : Int) := by omega
   clear ht hr hno
   go_enter Tryz.func207, Tryz.ntmps207
   go_wp2
   go_ret
   exact ⟨KinF.below (below_al (below_al (Below.refl _ _) _) _), Or.inr ⟨hcf.out, rfl, of, (HIN.out.next (below_al (below_al (Below.refl _ _) _) _)).hf⟩⟩
theorem trav_cons {ns : List Nm} {t : RTree} {l : List RTree} {m m' : Nat} (h : Code.travAll ns (t :: l) m = some m') : ∃ m1, Code.trav ns t m = some m1 /\ Code.travAll ns l m1 = some m' := by
 simp only [Code.travAll, Option.bind_eq_some_iff] at h
 exact h
mutual
theorem trav_le (ns : List Nm) : ∀ (t : RTree) (m m' : Nat), Code.trav ns t m = some m' -> m <= m'
 | .name x, m, m', h => by
  simp only [Code.trav] at h
  split at h
  ·simp at h; omega
  ·split at h
   ·simp at h; omega
   ·cases h
 | .hash x, m, m', h => by
  simp only [Code.trav] at h
  split at h
  ·simp at h; omega
  ·split at h
   ·simp at h; omega
   ·cases h
 | .num c, m, m', h => by simp only [Code.trav, Option.some.injEq] at h; omega
 | .op k kids, m, m', h => by simp only [Code.trav] at h; exact travAll_le ns kids m m' h
 | .fold k kids, m, m', h => by simp [Code.trav] at h
theorem travAll_le (ns : List Nm) : ∀ (l : List RTree) (m m' : Nat), Code.travAll ns l m = some m' -> m <= m'
 | [], m, m', h => by simp only [Code.travAll, Option.some.injEq] at h; omega
 | t :: l, m, m', h => by
  obtain ⟨m1, h1, h2⟩ := trav_cons h
  have := trav_le ns t m m1 h1
  have := travAll_le ns l m1 m' h2
  omega
end
theorem node_yes (w0 w : World) (th : Nat -> Option Code.Thing) (ns : List Nm) (fb tb B base : Nat) (of : List Nat) (k n m' : Nat) (sv : Value) (vs : List Value) (kids : List RTree) (args : List Nat) (ih : ∀ s ∈ kids, FitC s) (hin : FitIn w0 w th ns fb tb B of) (hown : w0.ownsRow base 262 1 sv vs.length vs) (hts : RepTs w0 base false (LP ⟨ns, false⟩) vs kids) (hvl : vs.length = args.length) (hv2 : vs.length <= 2) (htr : Code.travAll ns kids of.length = some m') (hm : m' <= 6000) (hn : n < 60) (ht : th n = some (.apply k args)) (h60 : ∀ x ∈ args, x < 60) :
  Calls Tryz.prog 207 #[.pointer (some ⟨fb, 0, none⟩), .agg #[.int .i64 (k : Nat), sv], .int .i64 (n : Nat)] w fun e w' => FitPost (Code.cfits th ns (.op k kids) n of) m' fb tb B w e w' := by
 obtain ⟨sp, sc, rfl⟩ := own_slice hown
 obtain ⟨ov, hx, _⟩ := hin.hf
 obtain ⟨v, hc, hv⟩ := hin.hth.cell hin.hB hin.hb n hn
 rw [ht] at hv
 obtain ⟨r, rfl, hr⟩ := hv
 obtain ⟨rp, rc, rfl⟩ := own_slice hr
 have c0 := blk_cell hx 0 _ rfl
 have hfl := lt_of_block hx
 have htl : tb < w.heap.size := by
  cases hh : w.heap[tb]? with
  | none => simp [World.cell?, hh] at hc
  | some o => exact lt_of_block hh
 have hn' : (n : Int) < 60 := by omega
 have h1 := isApply_apply
 have HCF : Hid (Code.cfits th ns (.op k kids) n of = Code.cfitsAll th ns kids args of) := by simp [Hid, Code.cfits, ht]
 have HIN := hide hin
 have HOWN := hide hown
 have HTS := hide hts
 have HR := hide hr
 have HIH := hide ih
 have HTR := hide htr
 have HVA := hide hvl
 have HVK : Hid (vs.length = kids.length) := hide hts.length
 have HH60 := hide h60
 have htop := hin.top
 have HFN : Hid (fb < w.heap.size) := hide hfl
 have hfb := hin.hfb
 have hcs : vs.length <= sc := own_cap hown
 have hcr : args.length <= rc := own_cap hr
 clear hin hx hown hts hr ih htr hvl ht h60
 go_enter Tryz.func207, Tryz.ntmps207
 go_wp2_with fail
 generalize hw1 : (w.alloc _).alloc _ = w1
 have hb1 : Below w.heap.size w w1 := by rw [<- hw1]; exact below_al (below_al (Below.refl _ _) _) _
 have hab : w1.heap[w.heap.size + 1]? = some (.cells #[.int .i64 (k : Nat), .slice rp args.length rc] 238) := by
  have h := heap_alloc_new (w.alloc (.cells #[.int .i64 (k : Nat), .slice sp vs.length sc] 119)) (.cells #[.int .i64 (k : Nat), .slice rp args.length rc] 238)
  rw [alloc_size] at h
  rw [<- hw1]; exact h
 clear hw1
 have HIN1 := hide (HIN.out.next hb1)
 go_loopw [29] (fun i wr => ∃ (j : Nat) (ofj : List Nat), j <= vs.length /\ i = .int .i64 (j : Nat) /\ FitIn w0 wr th ns fb tb B ofj /\ KinF w wr fb B /\ wr.heap[w.heap.size + 1]? = some (.cells #[.int .i64 (k : Nat), .slice rp args.length rc] 238) /\ Hid (Code.travAll ns (kids.drop j) ofj.length = some m') /\ Hid (Code.cfits th ns (.op k kids) n of = Code.cfitsAll th ns (kids.drop j) (args.drop j) ofj)) (fun i _ => vs.length - (intOf i).toNat)
 case atStart => exact ⟨0, of, by omega, rfl, HIN1.out, KinF.below hb1, hab, HTR, HCF⟩
 case round =>
  obtain ⟨j, ofj, hj, rfl, hin, hkf, hab', htr, hcf⟩ := hrel
  have hbw := hin.hb
  have hBB := hin.hB
  clear hab
  by_cases hlt : j < vs.length
  ·have hlk : j < kids.length := by rw [<- HVK.out]; exact hlt
   have hla : j < args.length := by rw [<- HVA.out]; exact hlt
   obtain ⟨g, cap, hge, _, hgl, hcell⟩ := row_open (own_below HOWN.out (hBB ▸ hbw)) (by omega)
   simp only [Value.slice.injEq] at hge
   obtain ⟨rfl, _, rfl⟩ := hge
   have e0 := hcell j _ (List.getElem?_eq_getElem hlt)
   obtain ⟨g2, cap2, hge2, _, hgl2, hcell2⟩ := row_open (own_below HR.out (hBB ▸ hbw)) (by omega)
   simp only [Value.slice.injEq] at hge2
   obtain ⟨rfl, _, rfl⟩ := hge2
   have e1 := hcell2 j _ (nats_get' args j hla)
   have hrep := HTS.out.get j hlk hlt
   obtain ⟨T, x, hxv⟩ := hrep.shape
   have hdk : kids.drop j = kids[j] :: kids.drop (j + 1) := List.drop_eq_getElem_cons hlk
   have hda : args.drop j = args[j] :: args.drop (j + 1) := List.drop_eq_getElem_cons hla
   have htr' := htr.out
   rw [hdk] at htr'
   obtain ⟨m1, htr1, htr2⟩ := trav_cons htr'
   have hm1 : m1 <= 6000 := Nat.le_trans (travAll_le ns _ _ _ htr2) hm
   have HP := hide (HIH.out kids[j] (List.getElem_mem hlk) w0 wr th ns fb tb B base ofj vs[j] args[j] m1 hin hrep htr1 hm1 (HH60.out _ (List.getElem_mem hla)))
   have HCN : Hid (Code.cfits th ns (.op k kids) n of = (Code.cfits th ns kids[j] args[j] ofj).bind fun of' => Code.cfitsAll th ns (kids.drop (j + 1)) (args.drop (j + 1)) of') := by
    rw [hcf.out, hdk, hda]; exact rfl
   rw [hxv] at e0 HP
   have hjl : (j : Int) < (vs.length : Int) := by omega
   have hjl2 : (j : Int) < (args.length : Int) := by omega
   have a1 := blk_cell hab' 1 _ rfl
   have HT2 := hide htr2
   have HIN2 := hide hin
   clear hcell hcell2 hrep hdk hda htr' htr1 htr2 htr hcf hxv hin
   generalize args[j] = aj at *
   generalize Code.cfits th ns kids[j] aj ofj = cf at *
   go_wp2_with fail
   refine (HP.out).mono ?_
   rintro e w3 ⟨hk3, ⟨of', hcc, hl', h6', rfl, hf3⟩ | ⟨hcc, rfl, of', hf3⟩⟩
   ·have HN : Hid (Code.cfits th ns (.op k kids) n of = Code.cfitsAll th ns (kids.drop (j + 1)) (args.drop (j + 1)) of') := by rw [HCN.out, hcc]; exact rfl
    have hab3 := hk3.block _ _ hab' (by have := HFN.out; omega) (Or.inr (by intro C z h; simp only [Obj.cells.injEq] at h; exact absurd h.2.1 (by decide)))
    have HL := hide hl'
    clear hcc hl' HCN
    go_wp2
    exact ⟨⟨j + 1, of', by omega, by go_num, HIN2.out.step hk3 hf3 h6', hkf.trans hk3, hab3, by rw [HL.out]; exact HT2, HN⟩, by simp [intOf]; omega⟩
   ·have HN : Hid (Code.cfits th ns (.op k kids) n of = none) := by rw [HCN.out, hcc]; exact rfl
    clear hcc HCN
    go_wp2
    go_ret
    exact ⟨hkf.trans hk3, Or.inr ⟨HN.out, rfl, of', hf3⟩⟩
  ·have hjn : kids.drop j = [] := List.drop_of_length_le (by rw [<- HVK.out]; omega)
   have HN : Hid (Code.cfits th ns (.op k kids) n of = some ofj) := by rw [hcf.out, hjn]; exact rfl
   have HM : Hid (ofj.length = m') := by
    have h := htr.out
    rw [hjn] at h
    simpa [Hid, Code.travAll] using h
   have HIN2 := hide hin
   clear htr hcf hjn hin
   go_wp2
   go_ret
   exact ⟨hkf, Or.inl ⟨ofj, HN.out, HM.out, HIN2.out.of60, rfl, HIN2.out.hf⟩⟩
theorem fnode_any (w0 w : World) (th : Nat -> Option Code.Thing) (ns : List Nm) (fb tb B base : Nat) (of : List Nat) (k n m' : Nat) (sv : Value) (vs : List Value) (kids : List RTree) (ih : ∀ s ∈ kids, FitC s) (hin : FitIn w0 w th ns fb tb B of) (hown : w0.ownsRow base 262 1 sv vs.length vs) (hts : RepTs w0 base false (LP ⟨ns, false⟩) vs kids) (hvl : vs.length = Code.opOf k) (htr : Code.travAll ns kids of.length = some m') (hm : m' <= 6000) (hn : n < 60) :
  Calls Tryz.prog 207 #[.pointer (some ⟨fb, 0, none⟩), .agg #[.int .i64 (k : Nat), sv], .int .i64 (n : Nat)] w fun e w' => FitPost (Code.cfits th ns (.op k kids) n of) m' fb tb B w e w' := by
 by_cases h : ∃ args, th n = some (.apply k args)
 ·obtain ⟨args, ha⟩ := h
  have hok := hin.ok n _ ha
  simp only at hok
  have h2 := Code.opOf_range k hok.1
  exact node_yes w0 w th ns fb tb B base of k n m' sv vs kids args ih hin hown hts (by rw [hvl, hok.2.1]) (by omega) htr hm hn ha hok.2.2
 ·obtain ⟨p, c, hs⟩ := own_slice hown
  exact node_no w0 w th ns fb tb B of k n m' sv kids hin ⟨p, _, c, hs⟩ hn (fun args ha => h ⟨args, ha⟩)
theorem fit_op (k : Nat) (kids : List RTree) (ih : ∀ s ∈ kids, FitC s) : FitC (.op k kids) := by
 intro w0 w th ns fb tb B base of pv n m' hin hrep htr hm hn
 obtain ⟨sv, vs, rfl, hk, hvl, hown, hts⟩ := hrep
 simp only [Bool.false_eq_true, if_false] at hown ⊢
 simp only [Code.trav] at htr
 have HN : Hid (∀ w1, Below w.heap.size w w1 -> Calls Tryz.prog 207 #[.pointer (some ⟨fb, 0, none⟩), .agg #[.int .i64 (k : Nat), sv], .int .i64 (n : Nat)] w1 fun e w' => FitPost (Code.cfits th ns (.op k kids) n of) m' fb tb B w1 e w') := hide fun w1 hb1 => fnode_any w0 w1 th ns fb tb B base of k n m' sv vs kids ih (hin.next hb1) hown hts hvl htr hm hn
 obtain ⟨sp, sc, rfl⟩ := own_slice hown
 have t1 := pNm_node (.agg #[.int .i64 (k : Nat), .slice sp vs.length sc])
 have t2 := pHs_node (.agg #[.int .i64 (k : Nat), .slice sp vs.length sc])
 have t3 := pNu_node (.agg #[.int .i64 (k : Nat), .slice sp vs.length sc])
 have t4 := pNd_node (.agg #[.int .i64 (k : Nat), .slice sp vs.length sc])
 clear hin hown hts hvl htr ih
 generalize vs.length = vl at *
 generalize Code.cfits th ns (.op k kids) n of = cf at *
 go_enter Tryz.func169, Tryz.ntmps169
 go_wp2_with fail
 refine (HN.out _ (below_al (Below.refl _ _) _)).mono ?_
 rintro e w3 ⟨hk3, ⟨of', hcc, hl', h6', rfl, hf3⟩ | ⟨hcc, rfl, of', hf3⟩⟩
 ·have HC := hide hcc
  have HL := hide hl'
  clear hcc hl'
  go_wp2
  go_ret
  exact ⟨(KinF.below (below_al (Below.refl _ _) _)).trans hk3, Or.inl ⟨of', HC.out, HL.out, h6', rfl, hf3⟩⟩
 ·have HC := hide hcc
  clear hcc
  go_wp2
  go_ret
  exact ⟨(KinF.below (below_al (Below.refl _ _) _)).trans hk3, Or.inr ⟨HC.out, rfl, of', hf3⟩⟩
mutual
theorem fit_any : ∀ t : RTree, FitC t
 | .name x => fit_name x
 | .hash x => fit_hash x
 | .num c => fit_num c
 | .op k kids => fit_op k kids (fits_any kids)
 | .fold k kids => by
  intro w0 w th ns fb tb B base of pv n m' hin hrep htr hm hn
  simp [Code.trav] at htr
theorem fits_any : ∀ (l : List RTree), ∀ s ∈ l, FitC s
 | [], _, h => by cases h
 | t :: l, s, h => by
  rcases List.mem_cons.1 h with h | h
  ·rw [h]; exact fit_any t
  ·exact fits_any l s h
end
def FitV (w : World) (tb B : Nat) (of : List Nat) (v : Value) : Prop := ∃ ov, v = .agg #[.pointer (some ⟨tb, 0, none⟩), ov] /\ w.ownsRow B 3 1 ov of.length (nats of)
def FittedPost (o : Option (List Nat)) (m' tb : Nat) (w : World) (e : Ending) (w' : World) : Prop :=
 Below w.heap.size w w' /\ ∃ of' v, FitV w' tb w.heap.size of' v /\ e = .returned (.tuple #[v, .bool o.isSome]) /\ ((o = some of' /\ of'.length = m' /\ ∀ x ∈ of', x < 60) \/ o = none)
theorem KinF.new {w w1 w' : World} {fb : Nat} (hb : Below w.heap.size w w1) (h : KinF w1 w' fb w.heap.size) (hfb : w.heap.size <= fb) : Below w.heap.size w w' := h.down rfl hb hfb
theorem fitted_any (th : Nat -> Option Code.Thing) (tb : Nat) (R : CRule) (k : Nat) (sv rv : Value) (n m' base : Nat) (w : World) (hth : ThArr w tb th) (hok : ThOk th) (hd : DistW R.names) (hr : RepR w base R k sv rv) (htr : Code.trav R.names R.node 0 = some m') (hm : m' <= 6000) (hn : n < 60) (hrv : ∃ T x, rv = .iface T x) :
  Calls Tryz.prog 125 #[.agg #[.int .i64 (k : Nat), sv, rv], .pointer (some ⟨tb, 0, none⟩), .int .i64 (n : Nat)] w fun e w' => FittedPost (Code.cfits th R.names R.node n []) m' tb w e w' := by
 have hnode := hr.1
 obtain ⟨k', kids, hop, hkk, hk13, sp, sn, sc, rfl⟩ := hnode.op_eq
 obtain ⟨T, x, rfl⟩ := hrv
 have HP : Hid (∀ w1 fb, Below w.heap.size w w1 -> w.heap.size <= fb -> w1.heap[fb]? = some (.cells #[.pointer (some ⟨tb, 0, none⟩), .slice none 0 0] 220) -> Calls Tryz.prog 169 #[.pointer (some ⟨fb, 0, none⟩), .iface 119 (.agg #[.int .i64 (k : Nat), .slice sp sn sc]), .int .i64 (n : Nat)] w1 fun e w' => FitPost (Code.cfits th R.names R.node n []) m' fb tb w.heap.size w1 e w') := hide fun w1 fb hb1 hfb hx1 =>
  fit_any R.node w w1 th R.names fb tb w.heap.size base [] _ n m' ⟨hth, hok, rfl, hb1, ⟨_, hx1, World.ownsRow_nil _ _ _ _⟩, hfb, hd, by simp⟩ hnode htr hm hn
 clear hnode hop hkk hr hth hok hd htr hm
 generalize Code.cfits th R.names R.node n [] = cf at *
 go_enter Tryz.func125, Tryz.ntmps125
 go_wp2_with fail
 generalize hw1 : ((w.alloc _).alloc _).alloc _ = w1
 have hb1 : Below w.heap.size w w1 := by rw [<- hw1]; exact below_al (below_al (below_al (Below.refl _ _) _) _) _
 have hx1 : w1.heap[w.heap.size + 1 + 1]? = some (.cells #[.pointer (some ⟨tb, 0, none⟩), .slice none 0 0] 220) := by
  have h := heap_alloc_new ((w.alloc (.cells #[.int .i64 (k : Nat), .slice sp sn sc, .iface T x] 123)).alloc (.cells #[.pointer none, .slice none 0 0] 220)) (.cells #[.pointer (some ⟨tb, 0, none⟩), .slice none 0 0] 220)
  rw [alloc_size, alloc_size] at h
  rw [<- hw1]; exact h
 have hr1 : w1.heap[w.heap.size + 1]? = some (.cells #[.pointer none, .slice none 0 0] 220) := by
  have h := heap_alloc_new (w.alloc (.cells #[.int .i64 (k : Nat), .slice sp sn sc, .iface T x] 123)) (.cells #[.pointer none, .slice none 0 0] 220)
  rw [alloc_size] at h
  rw [<- hw1]; exact stay_alloc h
 clear hw1
 refine (HP.out w1 _ hb1 (by omega) hx1).mono ?_
 rintro e w2 ⟨hk2, hend⟩
 have hr2 := hk2.block _ _ hr1 (by omega) (Or.inr (by intro C z h; simp only [Obj.cells.injEq] at h; exact absurd h.2.1 (by decide)))
 have hbw2 : Below w.heap.size w w2 := hk2.new hb1 (by omega)
 have q0 := blk_cell hr2 0 _ rfl
 have q1 := blk_cell hr2 1 _ rfl
 have z0 := blk_froz hr2 0
 have z1 := blk_froz hr2 1
 have hfit : ∃ (of' : List Nat) (bb : Bool), FitR w2 (w.heap.size + 1 + 1) tb w.heap.size of' /\ e = .returned (.bool bb) /\ bb = cf.isSome /\ ((cf = some of' /\ of'.length = m' /\ ∀ x ∈ of', x < 60) \/ cf = none) := by
  rcases hend with ⟨of', hcc, hl', h6', rfl, hf3⟩ | ⟨hcc, rfl, of', hf3⟩
  ·exact ⟨of', true, hf3, rfl, by rw [hcc]; rfl, Or.inl ⟨hcc, hl', h6'⟩⟩
  ·exact ⟨of', false, hf3, rfl, by rw [hcc]; rfl, Or.inr hcc⟩
 clear hend
 obtain ⟨of', bb, ⟨ov, hx2, hown⟩, rfl, hbb, hfin⟩ := hfit
 have HOWN := hide hown
 obtain ⟨op, oc, rfl⟩ := own_slice hown
 have c0 := blk_cell hx2 0 _ rfl
 have c1 := blk_cell hx2 1 _ rfl
 have HBB := hide hbb
 have HFIN := hide hfin
 clear hown hbb hfin hx1 hr1
 go_wp2
 have hr3 := set_block (o := 1) (v := .slice op of'.length oc) (set_block (o := 0) (v := .pointer (some ⟨tb, 0, none⟩)) hr2)
 refine bodyPost_ret (v := .tuple #[.agg #[.pointer (some ⟨tb, 0, none⟩), .slice op of'.length oc], .bool bb]) ?_ rfl ?_
 ·have d0 := blk_cell hr3 0 (.pointer (some ⟨tb, 0, none⟩)) rfl
  have d1 := blk_cell hr3 1 (.slice op of'.length oc) rfl
  simp [results, Tryz.results125, go_sem, d0, d1]
 ·refine ⟨below_set (below_set hbw2 (by omega) _ _) (by omega) _ _, of', _, ⟨_, rfl, own_set (own_set HOWN.out hr2 (by decide)) (set_block hr2) (by decide)⟩, by rw [HBB.out], HFIN.out⟩
end Go.Proofs.YtedkjanogjglkaaGreatDoor
