/-
  Parts of the proof: RSame, RSame2, RwPlain, RTextP, RTextW, LRowG, RScan, RText, RRep.
-/
import Derived.Test.YtedkjanogjglkaaGreatDoorP08
import Derived.Lib.ItoaNum
import Derived.Lib.ItoaLen
import Derived.Test.YtedkjanogjglkaaGreatDoorP01
import Derived.Lib.AppendIntMem
import Derived.Test.YtedkjanogjglkaaGreatDoorTie
import Derived.ProofKit
import Derived.OpenShut
import Derived.Lay
import Derived.MakeChecks
import Derived.SevenTiedAt
import Derived.Stop.Joined
import Derived.Test.YtedkjanogjglkaaGreatDoorP02
set_option maxRecDepth 100000
set_option maxHeartbeats 2000000
namespace Go.Proofs.YtedkjanogjglkaaGreatDoor.Code
def slots (slot : RSt -> Nm -> Option RSt) : RSt -> List Nm -> Option RSt
 | st, [] => some st
 | st, p :: l => (slot st p).bind fun st' => slots slot st' l
theorem slots_app (slot : RSt -> Nm -> Option RSt) : ∀ (l m : List Nm) (st : RSt), slots slot st (l ++ m) = (slots slot st l).bind fun st' => slots slot st' m
 | [], m, st => rfl
 | p :: l, m, st => by
  simp only [List.cons_append, slots]
  cases slot st p with
  | none => rfl
  | some st' => exact slots_app slot l m st'
def upon (c : RTree -> Bool) (slot : RSt -> Nm -> Option RSt) (st : RSt) (p : RTree × List UInt8) : Option (RTree × RSt × List UInt8) :=
 if c p.1 = true then (slots slot st p.1.names).map fun st' => (p.1, st', p.2) else none
def uponAll (c : RTree -> Bool) (slot : RSt -> Nm -> Option RSt) (st : RSt) (p : List RTree × List UInt8) : Option (List RTree × RSt × List UInt8) :=
 if p.1.all c = true then (slots slot st (namesAll p.1)).map fun st' => (p.1, st', p.2) else none
theorem kids_upon {f : Prs} {g : List UInt8 -> Option (RTree × List UInt8)} {c : RTree -> Bool} {slot : RSt -> Nm -> Option RSt} (h : ∀ st s, f st s = (g s).bind (upon c slot st)) : ∀ (n : Nat) (st : RSt) (s : List UInt8),
  kidsS f n st s = (kidsP g n s).bind (uponAll c slot st)
 | 0, st, s => by simp [kidsS, kidsP, uponAll, namesAll, slots]
 | n + 1, st, s => by
  have ih := kids_upon h n
  simp only [kidsS, kidsP]
  cases hc : cut [32] s with
  | none => rfl
  | some r =>
   simp only [Option.bind_some]
   rw [h]
   cases hg : g r with
   | none => rfl
   | some p =>
    simp only [Option.bind_some]
    by_cases hp : c p.1 = true
    ·simp only [upon, hp, if_true]
     cases hs : slots slot st p.1.names with
     | none =>
      simp only [Option.map_none, Option.bind_none]
      cases hk : kidsP g n p.2 with
      | none => rfl
      | some q =>
       simp only [Option.map_some, Option.bind_some, uponAll]
       split
       ·rw [namesAll, slots_app, hs]; rfl
       ·rfl
     | some st' =>
      simp only [Option.map_some, Option.bind_some]
      rw [ih]
      cases hk : kidsP g n p.2 with
      | none => rfl
      | some q =>
       simp only [Option.map_some, Option.bind_some, uponAll, List.all_cons, hp, Bool.true_and]
       split
       ·rw [namesAll, slots_app, hs]
        simp only [Option.bind_some]
        cases slots slot st' (namesAll q.1) <;> rfl
       ·rfl
    ·have hp' : c p.1 = false := by simpa using hp
     simp only [upon, hp', Bool.false_eq_true, if_false, Option.bind_none]
     cases hk : kidsP g n p.2 with
     | none => rfl
     | some q => simp [uponAll, hp']
theorem oper_upon {f : Prs} {g : List UInt8 -> Option (RTree × List UInt8)} {c c' : RTree -> Bool} {slot : RSt -> Nm -> Option RSt} {mk : Nat -> List RTree -> RTree} (h : ∀ st s, f st s = (g s).bind (upon c slot st)) (hn : ∀ k l, (mk k l).names = namesAll l) (hc : ∀ k l, c' (mk k l) = l.all c) (st : RSt) (s : List UInt8) :
  operS f mk st s = ((cut [40] s).bind (innerP g mk)).bind (upon c' slot st) := by
 unfold operS innerP
 cases cut [40] s with
 | none => rfl
 | some r =>
  simp only [Option.bind_some]
  cases opNamed (word r) with
  | none => rfl
  | some k =>
   simp only [Option.bind_some]
   rw [kids_upon h]
   cases kidsP g (opOf k) (behind r) with
   | none => rfl
   | some q =>
    simp only [Option.bind_some, uponAll]
    cases h41 : cut [41] q.2 with
    | none =>
     simp only [Option.map_none, Option.bind_none]
     split
     ·cases slots slot st (namesAll q.1) with
      | none => rfl
      | some st' => simp [h41]
     ·rfl
    | some t =>
     simp only [Option.map_some, Option.bind_some, upon, hn, hc]
     split
     ·cases slots slot st (namesAll q.1) with
      | none => rfl
      | some st' => simp [h41]
     ·rfl
theorem atom_upon (c : RTree -> Bool) (slot : RSt -> Nm -> Option RSt) (hc : ∀ s t r, atomP s = some (t, r) -> c t = true) (st : RSt) (s : List UInt8) : atomS slot st s = (atomP s).bind (upon c slot st) := by
 unfold atomS
 cases h : atomP s with
 | none => rfl
 | some p =>
  have hp := hc s p.1 p.2 h
  simp only [Option.bind_some, upon, hp, if_true]
  unfold atomP at h
  have hs : ∀ q : Nm, slots slot st [q] = slot st q := fun q => by simp only [slots]; cases slot st q <;> rfl
  split at h
  ·simp only [Option.map_eq_some_iff] at h
   obtain ⟨q, _, rfl⟩ := h
   simp [RTree.leaf, RTree.names, hs]
  ·split at h
   ·simp only [Option.map_eq_some_iff] at h
    obtain ⟨q, _, rfl⟩ := h
    simp [RTree.leaf, RTree.names, slots]
   ·simp only [Option.map_eq_some_iff] at h
    obtain ⟨q, _, rfl⟩ := h
    simp [RTree.leaf, RTree.names, hs]
theorem all_true (l : List RTree) : l.all (fun _ => true) = true := by simp
theorem part_upon : ∀ (d : Nat) (st : RSt) (s : List UInt8), partS d st s = (treeP false d s).bind (upon (fun _ => true) bindS st)
 | 0, st, s => by
  simp only [partS, treeP, Bool.false_eq_true, false_and, if_false]
  split
  ·rfl
  ·exact atom_upon _ _ (fun _ _ _ _ => rfl) st s
 | d + 1, st, s => by
  simp only [partS, treeP, Bool.false_eq_true, if_false]
  have h := oper_upon (c' := fun _ => true) (mk := .op) (part_upon d) (fun k l => by simp [RTree.names]) (fun k l => (all_true l).symm) st s
  cases hc : cut [40] s with
  | none => exact atom_upon _ _ (fun _ _ _ _ => rfl) st s
  | some r =>
   rw [hc] at h
   simp only [Option.isSome_some, if_true]
   exact h
theorem foldsAll_eq (b : Bool) : ∀ l : List RTree, foldsAll b l = l.all (RTree.folds b)
 | [] => by simp [foldsAll]
 | t :: l => by simp only [foldsAll, List.all_cons, foldsAll_eq b l]
theorem folds_known (t : RTree) : t.folds true = (t.folds false && t.known) := by
 cases t <;> simp [RTree.folds, RTree.known]
theorem known_upon {f : Prs} {g : List UInt8 -> Option (RTree × List UInt8)} {slot : RSt -> Nm -> Option RSt} (h : ∀ st s, f st s = (g s).bind (upon (RTree.folds false) slot st)) (st : RSt) (s : List UInt8) :
  knownS f st s = (g s).bind (upon (RTree.folds true) slot st) := by
 unfold knownS
 rw [h]
 cases g s with
 | none => rfl
 | some p =>
  simp only [Option.bind_some, upon, folds_known]
  cases h1 : p.1.folds false with
  | false => rfl
  | true =>
   simp only [if_true, Bool.true_and]
   cases h2 : p.1.known with
   | false => cases slots slot st p.1.names <;> simp [h2]
   | true => cases slots slot st p.1.names <;> simp [h2]
theorem filter_upon {o : Option (RTree × List UInt8)} {c c' : RTree -> Bool} {q : RTree -> Bool} {slot : RSt -> Nm -> Option RSt} {st : RSt} (h : ∀ t r, o = some (t, r) -> c' t = (c t && q t)) :
  (o.bind (upon c slot st)).filter (fun p => q p.1) = o.bind (upon c' slot st) := by
 cases o with
 | none => rfl
 | some p =>
  have h := h p.1 p.2 rfl
  simp only [Option.bind_some, upon, h]
  cases c p.1 with
  | false => rfl
  | true =>
   simp only [if_true, Bool.true_and]
   cases h2 : q p.1 <;> cases slots slot st p.1.names <;> simp [h2]
theorem word_bang {s r : List UInt8} (h : cut [33] s = some r) : atomP s = none := by
 have e := cut_some h
 subst e
 have h1 : cut [35] ([33] ++ r) = none := by simp [cut, List.isPrefixOf]
 have h2 : word ([33] ++ r) = [] := by simp [word, run, isIn]
 have h3 : cut [45] ([33] ++ r) = none := by simp [cut, List.isPrefixOf]
 have h4 : number ([33] ++ r) = none := by simp [number, run, isIn, badDigits]
 unfold atomP
 rw [h1]
 simp only [h2, if_true]
 unfold signed
 rw [h3]
 simp only [h4, Option.bind_none, Option.map_none]
theorem cut_cut (s : List UInt8) : cut [33, 40] s = (cut [33] s).bind (cut [40]) := by
 cases s with
 | nil => simp [cut, List.isPrefixOf]
 | cons a s =>
  by_cases h : (33 : UInt8) = a
  ·subst h
   cases s with
   | nil => simp [cut, List.isPrefixOf]
   | cons b s =>
    by_cases h2 : (40 : UInt8) = b
    ·subst h2; simp [cut, List.isPrefixOf]
    ·simp [cut, List.isPrefixOf, h2]
  ·simp [cut, List.isPrefixOf, h]
theorem cut_both {s r : List UInt8} (h : cut [33] s = some r) : cut [40] s = none := by
 have e := cut_some h
 subst e
 simp [cut, List.isPrefixOf]
theorem res_upon : ∀ (d : Nat) (st : RSt) (s : List UInt8), resS d st s = (treeP true d s).bind (upon (RTree.folds false) findS st)
 | 0, st, s => by
  simp only [resS, treeP, true_and]
  cases h33 : cut [33] s with
  | some r =>
   have h40 := cut_both h33
   simp only [Option.isSome_some, if_true, h40, Option.isSome_none, Bool.false_eq_true, if_false]
   rw [word_bang h33]
   split <;> rfl
  | none =>
   simp only [Option.isSome_none, Bool.false_eq_true, if_false, cut_cut, h33, Option.bind_none]
   split
   ·rfl
   ·exact atom_upon _ _ atom_folds st s
 | d + 1, st, s => by
  have ih := res_upon d
  simp only [resS, treeP, if_true]
  cases h33 : cut [33] s with
  | some r =>
   have h40 := cut_both h33
   simp only [h40, cut_cut, h33, Option.bind_some, foldS]
   have ho := oper_upon (c' := fun t => match t with | .fold _ l => foldsAll true l | _ => false) (mk := .fold) (known_upon ih) (fun k l => by simp [RTree.names]) (fun k l => by simp [foldsAll_eq]) st r
   rw [ho]
   cases h41 : cut [40] r with
   | none => simp [word_bang h33]
   | some t =>
    simp only [Option.bind_some]
    refine filter_upon (q := fun t => !t.isDiv) ?_
    intro t u hi
    simp only [innerP, Option.bind_eq_some_iff, Option.map_eq_some_iff, Prod.mk.injEq] at hi
    obtain ⟨k, _, p, _, v, _, rfl, _⟩ := hi
    simp only [RTree.folds, RTree.isDiv]
    by_cases hk : k = 3
    ·subst hk; simp
    ·have : (k != 3) = true := by simpa using hk
     rw [this, Bool.true_and]
     split
     ·rename_i h; exact absurd (by injection h) hk
     ·rename_i h; cases h
     ·simp
  | none =>
   simp only [cut_cut, h33, Option.bind_none]
   have ho := oper_upon (c' := RTree.folds false) (mk := .op) ih (fun k l => by simp [RTree.names]) (fun k l => by simp [RTree.folds, foldsAll_eq]) st s
   cases hc : cut [40] s with
   | none =>
    simp only [Option.isSome_none, Bool.false_eq_true, if_false]
    exact atom_upon _ _ atom_folds st s
   | some r =>
    rw [hc] at ho
    simp only [Option.isSome_some, if_true]
    exact ho
where
 atom_folds (s : List UInt8) (t : RTree) (r : List UInt8) (h : atomP s = some (t, r)) : t.folds false = true := by
  unfold atomP at h
  split at h
  ·simp only [Option.map_eq_some_iff, Prod.mk.injEq] at h
   obtain ⟨p, _, rfl, _⟩ := h
   simp [RTree.folds]
  ·split at h
   ·simp only [Option.map_eq_some_iff, Prod.mk.injEq] at h
    obtain ⟨p, _, rfl, _⟩ := h
    simp [RTree.folds]
   ·simp only [Option.map_eq_some_iff, Prod.mk.injEq] at h
    obtain ⟨p, _, rfl, _⟩ := h
    simp [RTree.folds]
def Cons (l : List Nm) : Prop := ∀ p ∈ l, ∀ q ∈ l, p.1 = q.1 -> p = q
theorem slotAt_some {ns : List Nm} {w : List UInt8} {k : Nat} (h : slotAt ns w = some k) : ∃ b, ns[k]? = some (w, b) := by
 obtain ⟨hl, hp, _⟩ := List.findIdx?_eq_some_iff_getElem.1 h
 refine ⟨(ns[k]).2, ?_⟩
 rw [List.getElem?_eq_getElem hl]
 simp only [beq_iff_eq] at hp
 rw [<- hp]
theorem slotAt_none {ns : List Nm} {w : List UInt8} (h : slotAt ns w = none) : ∀ q ∈ ns, q.1 ≠ w := by
 intro q hq
 have := List.findIdx?_eq_none_iff.1 h q hq
 simpa using this
theorem bind_all : ∀ (l : List Nm) (st : RSt), Cons st.names ->
  (∀ st', slots bindS st l = some st' -> st'.unbound = st.unbound /\ Cons st'.names /\ (∀ p, p ∈ st'.names ↔ p ∈ st.names \/ p ∈ l) /\ ∃ m, st'.names = st.names ++ m) /\
  (slots bindS st l = none -> ¬ Cons (st.names ++ l))
 | [], st, hc => by
  refine ⟨?_, ?_⟩
  ·intro st' h
   simp only [slots, Option.some.injEq] at h
   subst h
   exact ⟨rfl, hc, fun p => by simp, [], by simp⟩
  ·intro h; cases h
 | p :: l, st, hc => by
  simp only [slots, bindS]
  cases hs : slotAt st.names p.1 with
  | some k =>
   obtain ⟨b, hb⟩ := slotAt_some hs
   have hm : (p.1, b) ∈ st.names := List.mem_of_getElem? hb
   simp only [hb, Option.map_some, Option.some.injEq]
   by_cases hbe : b = p.2
   ·subst hbe
    simp only [if_true, Option.bind_some]
    obtain ⟨h1, h2⟩ := bind_all l st hc
    refine ⟨fun st' h => ?_, fun h hcc => ?_⟩
    ·obtain ⟨a1, a2, a3, a4⟩ := h1 st' h
     refine ⟨a1, a2, fun q => ?_, a4⟩
     rw [a3 q]
     simp only [List.mem_cons]
     constructor
     ·rintro (h | h)
      ·exact Or.inl h
      ·exact Or.inr (Or.inr h)
     ·rintro (h | rfl | h)
      ·exact Or.inl h
      ·exact Or.inl hm
      ·exact Or.inr h
    ·refine h2 h (fun a ha b hb => hcc a ?_ b ?_)
     ·simp only [List.mem_append, List.mem_cons] at ha ⊢
      rcases ha with h | h
      ·exact Or.inl h
      ·exact Or.inr (Or.inr h)
     ·simp only [List.mem_append, List.mem_cons] at hb ⊢
      rcases hb with h | h
      ·exact Or.inl h
      ·exact Or.inr (Or.inr h)
   ·simp only [if_neg hbe, Option.bind_none]
    refine ⟨fun st' h => (nomatch h), fun _ hcc => ?_⟩
    have := hcc (p.1, b) (by simp [hm]) p (by simp) rfl
    exact hbe (congrArg Prod.snd this)
  | none =>
   have hne := slotAt_none hs
   simp only [Option.bind_some]
   have hc' : Cons (st.names ++ [p]) := by
    intro a ha b hb e
    simp only [List.mem_append, List.mem_singleton] at ha hb
    rcases ha with ha | rfl <;> rcases hb with hb | rfl
    ·exact hc a ha b hb e
    ·exact absurd e (hne a ha)
    ·exact absurd e.symm (hne b hb)
    ·rfl
   obtain ⟨h1, h2⟩ := bind_all l ⟨st.names ++ [p], st.unbound⟩ hc'
   refine ⟨fun st' h => ?_, fun h hcc => ?_⟩
   ·obtain ⟨a1, a2, a3, m, a4⟩ := h1 st' h
    refine ⟨a1, a2, fun q => ?_, p :: m, by rw [a4]; simp⟩
    rw [a3 q]
    simp [or_assoc]
   ·refine h2 h ?_
    simpa using hcc
theorem find_all (st : RSt) : ∀ (l : List Nm) (u : Bool), slots findS ⟨st.names, u⟩ l = some ⟨st.names, u || l.any fun p => (slotOf st.names p).isNone⟩
 | [], u => by simp [slots]
 | p :: l, u => by
  simp only [slots, findS, Option.bind_some]
  rw [find_all st l]
  simp [Bool.or_assoc]
def things (bks : List Blk) (n : Nat) : Option Thing := ((bks.flatMap Blk.values).find? fun v => v.num == n).map Val.thing
abbrev Known := List (List UInt8 × Nat)
def lookK (kn : Known) (w : List UInt8) : Option Nat := (kn.find? fun p => p.1 == w).map (·.2)
def constOf (th : Nat -> Option Thing) (n : Nat) : Option Int := match th n with
 | some (.const c) => some c
 | _ => none
mutual
def fits (th : Nat -> Option Thing) : RTree -> Nat -> Known -> Option Known
 | .num c, n, kn => if constOf th n = some c then some kn else none
 | .name w, n, kn => match lookK kn w with
  | some v => if v = n then some kn else none
  | none => some (kn ++ [(w, n)])
 | .hash w, n, kn => match constOf th n with
  | none => none
  | some c => match lookK kn w with
   | some v => if constOf th v = some c then some kn else none
   | none => some (kn ++ [(w, n)])
 | .op k kids, n, kn => match th n with
  | some (.apply j of) => if j = k then fitsAll th kids of kn else none
  | _ => none
 | .fold _ _, _, _ => none
def fitsAll (th : Nat -> Option Thing) : List RTree -> List Nat -> Known -> Option Known
 | [], _, kn => some kn
 | _ :: _, [], _ => none
 | t :: l, n :: of, kn => (fits th t n kn).bind fun kn' => fitsAll th l of kn'
end
structure CRule where
 node : RTree
 result : RTree
 names : List Nm
structure Pair where
 block : Nat
 index : Nat
 rule : CRule
def fitsAt (bks : List Blk) (v : Val) (r : CRule) : Bool := (fits (things bks) r.node v.num []).isSome
def pairsV (bks : List Blk) (rules : List CRule) (i : Nat) : Nat -> List Val -> List Pair
 | _, [] => []
 | k, v :: l => ((rules.filter (fitsAt bks v)).map fun r => ⟨i, k, r⟩) ++ pairsV bks rules i (k + 1) l
def pairsB (bks : List Blk) (rules : List CRule) : Nat -> List Blk -> List Pair
 | _, [] => []
 | i, b :: l => pairsV bks rules i 0 b.values ++ pairsB bks rules (i + 1) l
def pairs (rules : List CRule) (bks : List Blk) : List Pair := pairsB bks rules 0 bks
def free (th : Nat -> Option Thing) : Nat -> Nat -> Nat
 | 0, n => n
 | f + 1, n => if n < 60 /\ (th n).isSome = true then free th f (n + 1) else n
def freeFrom (th : Nat -> Option Thing) (n : Nat) : Nat := free th 60 n
def knownV (kn : Known) (w : List UInt8) : Nat := (lookK kn w).getD 0
mutual
def numR (th : Nat -> Option Thing) (kn : Known) : RTree -> Int
 | .num c => c
 | .hash w => (constOf th (knownV kn w)).getD 0
 | .fold k kids => (reckon k ((numsR th kn kids).headD 0) ((numsR th kn kids).getLastD 0)).getD 0
 | _ => 0
def numsR (th : Nat -> Option Thing) (kn : Known) : List RTree -> List Int
 | [] => []
 | t :: l => numR th kn t :: numsR th kn l
end
structure Mk where
 made : List Val
 next : Nat
def Mk.put (th : Nat -> Option Thing) (m : Mk) (t : Thing) : Nat × Mk := (freeFrom th m.next, ⟨m.made ++ [⟨freeFrom th m.next, t⟩], freeFrom th m.next + 1⟩)
mutual
def mkVal (th : Nat -> Option Thing) (kn : Known) : RTree -> Mk -> Nat × Mk
 | .name w, m => (knownV kn w, m)
 | .op k kids, m => (mkAll th kn kids m).2.put th (.apply k (mkAll th kn kids m).1)
 | .hash w, m => m.put th (.const (numR th kn (.hash w)))
 | .num c, m => m.put th (.const (numR th kn (.num c)))
 | .fold k kids, m => m.put th (.const (numR th kn (.fold k kids)))
def mkAll (th : Nat -> Option Thing) (kn : Known) : List RTree -> Mk -> List Nat × Mk
 | [], m => ([], m)
 | t :: l, m => ((mkVal th kn t m).1 :: (mkAll th kn l (mkVal th kn t m).2).1, (mkAll th kn l (mkVal th kn t m).2).2)
end
def mkThing (th : Nat -> Option Thing) (kn : Known) : RTree -> Mk -> Thing × Mk
 | .op k kids, m => (.apply k (mkAll th kn kids m).1, (mkAll th kn kids m).2)
 | t, m => (.const (numR th kn t), m)
def renN (a b n : Nat) : Nat := if n = a then b else n
def renT (a b : Nat) : Thing -> Thing
 | .phi of => .phi (of.map (renN a b))
 | .apply k of => .apply k (of.map (renN a b))
 | t => t
def renL (a b : Nat) : Last -> Last
 | .ret v => .ret (renN a b v)
 | .ifs v x y => .ifs (renN a b v) x y
 | z => z
def renB (a b : Nat) (bks : List Blk) : List Blk := bks.map fun k => ⟨k.values.map fun v => ⟨v.num, renT a b v.thing⟩, renL a b k.last⟩
def putB (i k : Nat) (l : List Val) (bks : List Blk) : List Blk := bks.modify i fun b => ⟨b.values.take k ++ l ++ b.values.drop (k + 1), b.last⟩
def allUses (t : Thing) : List Nat := match t with
 | .phi of => of
 | .apply _ of => of
 | _ => []
def usesB (b : Blk) : List Nat := (b.values.flatMap fun v => allUses v.thing) ++ useL b.last
def usedB (bks : List Blk) (n : Nat) : Bool := (bks.flatMap usesB).contains n
def isDivT : Thing -> Bool
 | .apply 3 _ => true
 | _ => false
def keepsV (bks : List Blk) (v : Val) : Bool := usedB bks v.num || isDivT v.thing
def sweep1 (bks : List Blk) : List Blk := bks.map fun b => ⟨b.values.filter (keepsV bks), b.last⟩
def countB (bks : List Blk) : Nat := (bks.map fun b => b.values.length).sum
def sweepF : Nat -> List Blk -> List Blk
 | 0, bks => bks
 | n + 1, bks => if countB (sweep1 bks) = countB bks then sweep1 bks else sweepF n (sweep1 bks)
def sweep (bks : List Blk) : List Blk := sweepF (countB bks + 1) bks
def stepB1 (bks : List Blk) (p : Pair) (num : Nat) (kn : Known) : Option (List Blk) := match p.rule.result with
 | .name w => some (sweep (renB num (knownV kn w) (putB p.block p.index [] bks)))
 | t => if 60 < (mkThing (things bks) kn t ⟨[], 0⟩).2.next then none
  else some (sweep (putB p.block p.index ((mkThing (things bks) kn t ⟨[], 0⟩).2.made ++ [⟨num, (mkThing (things bks) kn t ⟨[], 0⟩).1⟩]) bks))
def numb (mark : List UInt8) (l : List Int) : List UInt8 := l.flatMap fun n => mark ++ Lib.itoa n
def ofNats (l : List Nat) : List Int := l.map fun n => Int.ofNat n
def wrT : Thing -> List UInt8
 | .phi of => [112, 104, 105] ++ numb [32, 118] (ofNats of)
 | .arg k => numb [97, 114, 103, 32] [(k : Int)]
 | .const c => numb [99, 111, 110, 115, 116, 32] [c]
 | .apply k of => opName k ++ numb [32, 118] (ofNats of)
def wrL : Last -> List UInt8
 | .ret v => [114, 101, 116] ++ numb [32, 118] [(v : Int)]
 | .jump b => [106, 117, 109, 112] ++ numb [32, 98] [(b : Int)]
 | .ifs v x y => [105, 102] ++ numb [32, 118] [(v : Int)] ++ numb [32, 98] [(x : Int), (y : Int)]
def wrV (v : Val) : List UInt8 := numb [118] [(v.num : Int)] ++ [32, 61, 32] ++ wrT v.thing ++ [10]
def wrBk (i : Nat) (b : Blk) : List UInt8 := numb [98] [(i : Int)] ++ [58, 10] ++ b.values.flatMap wrV ++ (wrL b.last ++ [10])
def wrBs : Nat -> List Blk -> List UInt8
 | _, [] => []
 | i, b :: l => wrBk i b ++ wrBs (i + 1) l
def wrF (args : Nat) (bks : List Blk) : List UInt8 := (numb [102, 117, 110, 99, 32] [(args : Int)] ++ [10]) ++ wrBs 0 bks
theorem wrBs_append (bks l : List Blk) : ∀ i, wrBs i (bks ++ l) = wrBs i bks ++ wrBs (i + bks.length) l := by
 induction bks with
 | nil => intro i; simp [wrBs]
 | cons b bks ih =>
  intro i
  simp only [List.cons_append, wrBs, ih, List.append_assoc, List.length_cons]
  rw [show i + 1 + bks.length = i + (bks.length + 1) by omega]
theorem wrBs_take {bks : List Blk} {k : Nat} {b : Blk} (h : bks[k]? = some b) : wrBs 0 (bks.take (k + 1)) = wrBs 0 (bks.take k) ++ wrBk k b := by
 obtain ⟨hk, hb⟩ := List.getElem?_eq_some_iff.1 h
 rw [List.take_succ_eq_append_getElem hk, wrBs_append, hb]
 simp only [wrBs, List.append_nil, Nat.zero_add, List.length_take]
 rw [Nat.min_eq_left (by omega)]
theorem flat_take {α : Type} {β : Type} {l : List α} {k : Nat} {b : α} (f : α -> List β) (h : l[k]? = some b) : (l.take (k + 1)).flatMap f = (l.take k).flatMap f ++ f b := by
 obtain ⟨hk, hb⟩ := List.getElem?_eq_some_iff.1 h
 rw [List.take_succ_eq_append_getElem hk, List.flatMap_append, hb]
 simp
theorem wrBs_le (bks : List Blk) (k i : Nat) : (wrBs i (bks.take k)).length <= (wrBs i bks).length := by
 conv => rhs; rw [<- List.take_append_drop k bks, wrBs_append]
 rw [List.length_append]; omega
theorem flat_le {α : Type} {β : Type} (l : List α) (k : Nat) (f : α -> List β) : ((l.take k).flatMap f).length <= (l.flatMap f).length := by
 conv => rhs; rw [<- List.take_append_drop k l, List.flatMap_append]
 rw [List.length_append]; omega
def preB (args : Nat) (bks : List Blk) (j : Nat) : List UInt8 := (numb [102, 117, 110, 99, 32] [(args : Int)] ++ [10]) ++ wrBs 0 (bks.take j)
def preV (args : Nat) (bks : List Blk) (j : Nat) (vals : List Val) (k : Nat) : List UInt8 := preB args bks j ++ (numb [98] [(j : Int)] ++ [58, 10]) ++ (vals.take k).flatMap wrV
theorem preB_zero (args : Nat) (bks : List Blk) : preB args bks 0 = numb [102, 117, 110, 99, 32] [(args : Int)] ++ [10] := by simp [preB, wrBs]
theorem preB_all (args : Nat) (bks : List Blk) (j : Nat) (h : bks.length <= j) : preB args bks j = wrF args bks := by
 unfold preB wrF
 rw [List.take_of_length_le h]
theorem preV_zero (args : Nat) (bks : List Blk) (j : Nat) (vals : List Val) : preV args bks j vals 0 = preB args bks j ++ (numb [98] [(j : Int)] ++ [58, 10]) := by simp [preV]
theorem preV_succ (args : Nat) (bks : List Blk) (j : Nat) {vals : List Val} {k : Nat} {v : Val} (h : vals[k]? = some v) : preV args bks j vals (k + 1) = preV args bks j vals k ++ wrV v := by
 unfold preV
 rw [flat_take _ h]
 simp only [List.append_assoc]
theorem preB_succ (args : Nat) {bks : List Blk} {j : Nat} {b : Blk} (h : bks[j]? = some b) {k : Nat} (hk : b.values.length <= k) : preB args bks (j + 1) = preV args bks j b.values k ++ (wrL b.last ++ [10]) := by
 unfold preV preB
 rw [wrBs_take h, wrBk, List.take_of_length_le hk]
 simp only [List.append_assoc]
theorem preB_le (args : Nat) (bks : List Blk) (j : Nat) : (preB args bks j).length <= (wrF args bks).length := by
 unfold preB wrF
 simp only [List.length_append]
 exact Nat.add_le_add_left (wrBs_le bks j 0) _
theorem preV_le (args : Nat) {bks : List Blk} {j : Nat} {b : Blk} (h : bks[j]? = some b) (k : Nat) : (preV args bks j b.values k).length <= (wrF args bks).length := by
 refine Nat.le_trans ?_ (preB_le args bks (j + 1))
 rw [preB_succ args h (Nat.le_refl _)]
 unfold preV
 rw [List.take_length]
 simp only [List.length_append]
 have := flat_le b.values k wrV
 omega
theorem numb_len (mark : List UInt8) (l : List Int) (h : ∀ n ∈ l, -9223372036854775808 <= n /\ n <= 9223372036854775807) : (numb mark l).length <= l.length * (mark.length + 21) := by
 unfold numb
 induction l with
 | nil => simp
 | cons n l ih =>
  rw [List.flatMap_cons, List.length_append, List.length_append, List.length_cons, Nat.succ_mul]
  have h1 := Lib.itoa_length_le n (h n (List.mem_cons_self ..)).1 (h n (List.mem_cons_self ..)).2
  have h2 := ih (fun x hx => h x (List.mem_cons_of_mem _ hx))
  omega
end Go.Proofs.YtedkjanogjglkaaGreatDoor.Code
namespace Go.Proofs.YtedkjanogjglkaaGreatDoor
open Go.RowKit
def TabI (w : World) : Prop := Lib.TabIs Tryz.prog w "internal/strconv.uint64pow10" .u64 Lib.pow10Tab
theorem TabI.below {w w' : World} (h : TabI w) (hb : Below w.heap.size w w') : TabI w' := Lib.tabBelow_of_tabIs h w' hb
theorem itoa_any (n : Int) (h0 : -9223372036854775808 <= n) (h1 : n <= 9223372036854775807) (w : World) (ht : TabI w) :
  Calls Tryz.prog 132 #[.int .i64 n] w fun e w' => e = .returned (.string (bs (Lib.itoa n))) /\ Below w.heap.size w w' := by
 refine (itoa_lib n h0 h1 w ht).mono ?_
 rintro e w' ⟨rfl, k, os, rfl⟩
 exact ⟨rfl, Lib.below_grow _ _ (Nat.le_refl _) _ _⟩
def IntsAt (w : World) (v : Value) (ns : List Int) : Prop := ∃ p c, v = .slice p ns.length c /\ ∀ j (h : j < ns.length), ∃ g, p = some ⟨g, 0, none⟩ /\ w.cell? ⟨g, j, none⟩ = some (.int .i64 ns[j])
theorem IntsAt.below {w w' : World} {v : Value} {ns : List Int} (h : IntsAt w v ns) (hb : Below w.heap.size w w') : IntsAt w' v ns := by
 obtain ⟨p, c, rfl, hc⟩ := h
 refine ⟨p, c, rfl, fun j hj => ?_⟩
 obtain ⟨g, hg, hx⟩ := hc j hj
 refine ⟨g, hg, ?_⟩
 have hlt : g < w.heap.size := by
  cases hh : w.heap[g]? with
  | none => simp [World.cell?, hh] at hx
  | some o => exact lt_of_block hh
 have h2 := hb.block g hlt
 simpa [World.cell?, h2] using hx
theorem IntsAt.nats {w : World} {base : Nat} {v : Value} {l : List Nat} (h : w.ownsRow base 3 1 v l.length (nats l)) : IntsAt w v (Code.ofNats l) := by
 obtain ⟨p, c, rfl, hc⟩ := nats_open h
 refine ⟨p, c, by simp [Code.ofNats], fun j hj => ?_⟩
 have hj' : j < l.length := by simpa [Code.ofNats] using hj
 obtain ⟨g, hg, hx⟩ := hc j hj'
 exact ⟨g, hg, by simpa [Code.ofNats] using hx⟩
theorem numb_take {mark : List UInt8} {ns : List Int} {k : Nat} (h : k < ns.length) : Code.numb mark (ns.take (k + 1)) = Code.numb mark (ns.take k) ++ (mark ++ Lib.itoa ns[k]) := Code.flat_take _ (List.getElem?_eq_getElem h)
theorem numbered_any (mark : List UInt8) (ns : List Int) (v : Value) (w : World) (hv : IntsAt w v ns) (hin : ∀ n ∈ ns, -9223372036854775808 <= n /\ n <= 9223372036854775807) (hlen : ns.length <= 1000000) (hmk : mark.length <= 100) (ht : TabI w) :
  Calls Tryz.prog 80 #[.string (bs mark), v] w fun e w' => e = .returned (.string (bs (Code.numb mark ns))) /\ Below w.heap.size w w' := by
 have HV := hide hv
 have HI := hide hin
 have HT := hide ht
 obtain ⟨p, c, rfl, _⟩ := hv
 clear hin ht
 go_enter Tryz.func80, Tryz.ntmps80
 go_wp2
 go_loopw [5, 10] (fun t i wr => ∃ k : Nat, k <= ns.length /\ i = .int .i64 k /\ t = .string (bs (Code.numb mark (ns.take k))) /\ Below w.heap.size w wr) (fun _ i _ => ns.length - (intOf i).toNat)
 case atStart => exact ⟨0, by omega, rfl, rfl, Below.refl _ _⟩
 case round =>
  obtain ⟨k, hk, rfl, rfl, hbw⟩ := hrel
  by_cases hlt : k < ns.length
  ·obtain ⟨p', c', hpe, hcell⟩ := HV.out.below hbw
   simp only [Value.slice.injEq] at hpe
   obtain ⟨rfl, _, rfl⟩ := hpe
   obtain ⟨g, rfl, e0⟩ := hcell k hlt
   have HS : Hid (bs (Code.numb mark (ns.take (k + 1))) = _) := hide (congrArg bs (numb_take (mark := mark) hlt))
   have HN := hide (HI.out ns[k] (List.getElem_mem hlt))
   have hjl : (k : Int) < (ns.length : Int) := by omega
   have hTl : (bs (Code.numb mark (List.take k ns))).size <= 200000000 := by
    rw [bs_size]
    have h1 := Code.numb_len mark (ns.take k) (fun n hn => HI.out n (List.mem_of_mem_take hn))
    have h2 : (ns.take k).length * (mark.length + 21) <= 1000000 * 121 := Nat.mul_le_mul (by simp; omega) (by omega)
    omega
   have hml : (bs mark).size <= 100 := by rw [bs_size]; exact hmk
   generalize ns[k] = x at *
   have hxl : (bs (Lib.itoa x)).size <= 21 := by rw [bs_size]; exact Lib.itoa_length_le x HN.out.1 HN.out.2
   generalize Code.numb mark (List.take k ns) = T at *
   have HIT := hide (itoa_any x HN.out.1 HN.out.2 _ (HT.out.below hbw))
   rw [<- bs_append, <- bs_append] at HS
   generalize bs T = t at *
   generalize bs mark = m at *
   generalize bs (Lib.itoa x) = y at *
   clear hcell
   go_wp2_with fail
   refine HIT.out.mono ?_
   rintro e w3 ⟨rfl, hb3⟩
   have hyl : (m ++ y).size <= 121 := by rw [ByteArray.size_append']; omega
   go_wp2
   exact ⟨⟨k + 1, by omega, by go_num, congrArg Value.string HS.out.symm, hbw.trans (hb3.mono hbw.size)⟩, by simp [intOf]; omega⟩
  ·have hjl : k = ns.length := by omega
   subst hjl
   rw [List.take_length]
   go_wp2
   go_ret
   exact ⟨rfl, hbw⟩
theorem opName_any (k : Nat) (w : World) (hk : k < 13) (ht : Tab w) :
  Calls Tryz.prog 133 #[.int .i64 (k : Nat)] w fun e w' => e = .returned (.string (bs (Code.opName k))) /\ w' = w := by
 have hc := ht _ _ (opCells_at k hk).1
 rw [Nat.zero_add] at hc
 have hc' : w.cell? ⟨0, k * 3, none⟩ = some (.string (bs (Code.opName k))) := hc
 have hk' : (k : Int) < 13 := by omega
 clear hc
 generalize Code.opName k = N at *
 go_enter Tryz.func133, Tryz.ntmps133
 go_wp2
 go_ret
 exact ⟨rfl, rfl⟩
open Go.ChangeShapes Go.WideShapes Go.ChangeAt Go.RowKit
theorem ownK : ownKnob Tryz.prog.godebug = none := by kernel_rfl
theorem three_of {α : Type} : ∀ {l : List α}, l.length = 3 -> ∃ a b c, l = [a, b, c]
 | [a, b, c], _ => ⟨a, b, c, rfl⟩
 | [], h => by cases h
 | [_], h => by cases h
 | [_, _], h => by cases h
 | _ :: _ :: _ :: _ :: _, h => by simp only [List.length_cons] at h; omega
theorem row_cells {W : World} {n : Nat} {c : List Value} {a : List UInt8} {b d : Int} {p : List MemPlace}
  (h : DataW.trod (fun _ => ()) Tryz.prog W 0 (fun _ => true) false n 301 c = some (.agg [.lit (.string a), .lit (.int .i64 b), .lit (.int .i64 d)], p)) : c = [.string (bs a), .int .i64 b, .int .i64 d] := by
 obtain ⟨ys, m, _, ex, hl, hy, hf⟩ := DataW.trod_struct Tryz.underlying301 h
 have h3 : Tryz.prog.cellsOf 301 = 3 := by kernel_rfl
 have hs1 : Tryz.prog.cellsOf 9 = 1 := by kernel_rfl
 have hi1 : Tryz.prog.cellsOf 3 = 1 := by kernel_rfl
 rw [h3] at hl
 obtain ⟨c0, c1, c2, rfl⟩ := three_of hl
 obtain ⟨y0, y1, y2, rfl⟩ := three_of (show ys.length = 3 from hy)
 have h0 : DataW.trod (fun _ => ()) Tryz.prog W 0 (fun _ => true) false m 9 (([c0, c1, c2].drop 0).take (Tryz.prog.cellsOf 9)) = some y0 := hf 0 _ rfl
 have h1 : DataW.trod (fun _ => ()) Tryz.prog W 0 (fun _ => true) false m 3 (([c0, c1, c2].drop 1).take (Tryz.prog.cellsOf 3)) = some y1 := hf 1 _ rfl
 have h2 : DataW.trod (fun _ => ()) Tryz.prog W 0 (fun _ => true) false m 3 (([c0, c1, c2].drop 2).take (Tryz.prog.cellsOf 3)) = some y2 := hf 2 _ rfl
 rw [hs1] at h0
 rw [hi1] at h1 h2
 obtain ⟨s, e0, f0, _⟩ := DataW.trod_string Tryz.underlying9 h0
 obtain ⟨x, e1, f1, _⟩ := DataW.trod_int Tryz.underlying3 h1
 obtain ⟨z, e2, f2, _⟩ := DataW.trod_int Tryz.underlying3 h2
 have ex1 := (Prod.mk.inj ex).1
 simp only [List.map_cons, List.map_nil, DataW.agg.injEq, List.cons.injEq, and_true] at ex1
 obtain ⟨g0, g1, g2⟩ := ex1
 rw [f0] at g0
 rw [f1] at g1
 rw [f2] at g2
 simp only [DataW.lit.injEq, Lit.string.injEq, Lit.int.injEq, true_and] at g0 g1 g2
 have k0 : c0 = .string s := by simpa using e0
 have k1 : c1 = .int .i64 x := by simpa using e1
 have k2 : c2 = .int .i64 z := by simpa using e2
 subst g1 g2
 rw [k0, k1, k2, g0]
 rfl
abbrev laid4 : List (String × DataW Unit) := [("math/bits.deBruijn32tab", Rows.laid_math_bits_deBruijn32tab), ("math/bits.deBruijn64tab", Rows.laid_math_bits_deBruijn64tab), ("internal/strconv.uint64pow10", Rows.laid_internal_strconv_uint64pow10), ("chisel/code.opTable", Rows.laid_chisel_code_opTable)]
theorem laidVars_tail {P : Program} {w : World} {n : String} {d : DataW Unit} {r : List (String × DataW Unit)} {ps : List MemPlace} (h : DataW.LaidVars P w ((n, d) :: r) ps) : ∃ qs, DataW.LaidVars P w r qs := by
 obtain ⟨_, _, _, _, _, q, _, _, _, _, hq, _⟩ := h
 exact ⟨q, hq⟩
theorem tabI_of_laid {W : World} (h : laidMetH Tryz.prog laid4 W) : TabI W := by
 rw [MakeChecks.laidMetH_plain _ _ _ (by kernel_rfl)] at h
 obtain ⟨ps, h0, _, _⟩ := h
 obtain ⟨p1, h1⟩ := laidVars_tail h0
 obtain ⟨p2, h2⟩ := laidVars_tail h1
 obtain ⟨g, t, cs, fuel, p, q, hg, ht, hv, hd, _, _⟩ := h2
 have hty : (do let g <- Tryz.prog.globalNamed "internal/strconv.uint64pow10"; (Tryz.prog.globals[g]?).map (·.type)) = some 352 := by kernel_rfl
 rw [hg] at hty
 have hty' : (Tryz.prog.globals[g]?).map (·.type) = some 352 := hty
 obtain rfl := Option.some.inj (hty'.symm.trans ht)
 unfold TabI Lib.TabIs
 have hd' : DataW.trod (fun _ => ()) Tryz.prog W 0 (fun _ => true) false fuel 352 cs.toList = some (Lib.tabData .u64 Lib.pow10Tab, p) := hd
 have := Lib.cells_of_tab Tryz.underlying352 Tryz.underlying346 (by kernel_rfl) (by kernel_rfl) hd'
 rw [hv, <- this]
theorem tab_of_laid {W : World} (h : laidMetH Tryz.prog laid4 W) : Tab W := by
 rw [MakeChecks.laidMetH_plain _ _ _ (by kernel_rfl)] at h
 obtain ⟨ps, h0, _, _⟩ := h
 obtain ⟨p1, h1⟩ := laidVars_tail h0
 obtain ⟨p2, h2⟩ := laidVars_tail h1
 obtain ⟨p3, h3'⟩ := laidVars_tail h2
 obtain ⟨g, t, cs, fuel, p, q, hg, ht, hv, hd, _, _⟩ := h3'
 obtain rfl := Option.some.inj ((show Tryz.prog.globalNamed "chisel/code.opTable" = some 0 by kernel_rfl).symm.trans hg)
 obtain rfl := Option.some.inj ((show (Tryz.prog.globals[0]?).map (·.type) = some 302 by kernel_rfl).symm.trans ht)
 obtain ⟨xs, m, _, ex, hcl, hl, hel⟩ := DataW.trod_array Tryz.underlying302 hd
 have h3 : Tryz.prog.cellsOf 301 = 3 := by kernel_rfl
 have h39 : Tryz.prog.cellsOf 302 = 39 := by kernel_rfl
 rw [h39] at hcl
 have e3 : (xs.map (·.1)) = _ := (DataW.agg.inj (Prod.mk.inj ex).1).symm
 have key : ∀ i, i < 13 -> (cs.toList.drop (i * 3)).take 3 = (opCells.drop (i * 3)).take 3 := by
  intro i hi
  have hE := hel i hi
  rw [h3, List.getElem?_eq_getElem (by omega)] at hE
  have e4 : (xs.map (·.1))[i]? = some (xs[i]'(by omega)).1 := by rw [List.getElem?_map, List.getElem?_eq_getElem (by omega)]; rfl
  rw [e3] at e4
  generalize xs[i]'(by omega) = y at hE e4
  obtain ⟨yd, yp⟩ := y
  match i, hi with
  | 0, _ | 1, _ | 2, _ | 3, _ | 4, _ | 5, _ | 6, _ | 7, _ | 8, _ | 9, _ | 10, _ | 11, _ | 12, _ =>
   have e5 := Option.some.inj e4
   subst e5
   rw [row_cells hE]
   rfl
 intro j v hj
 rw [Nat.zero_add, World.var?_cell hg hv j]
 have hj39 : j < 39 := by
  have := (List.getElem?_eq_some_iff.1 hj).1
  exact this
 have hk := congrArg (fun l => l[j % 3]?) (key (j / 3) (by omega))
 simp only [List.getElem?_take, List.getElem?_drop, if_pos (Nat.mod_lt j (by omega : 3 > 0))] at hk
 rw [show j / 3 * 3 + j % 3 = j by omega, hj] at hk
 simpa using hk
def FailsAt (w : World) (rb : Nat) (l why : Int) (e : Ending) (w' : World) : Prop :=
 e = .panicked [{ v := .iface 61 (.agg #[.int .i64 why, .int .i64 l]), recovered := false }] /\ w.grownBy w' (some rb)
theorem giveUp_at (rb : Nat) (T : TypeId) (s : List UInt8) (l why a : Int) (X : List Value) (w : World) (hr : Rd w rb T s l why X) :
  Calls Tryz.prog 99 #[.pointer (some ⟨rb, 0, none⟩), .int .i64 a] w fun e w' => FailsAt w rb l a e w' := by
 have c1 := hr.c1
 go_enter Tryz.func99, Tryz.ntmps99
 go_wp2
 exact ⟨rfl, rfl, grown_refl _ _⟩
theorem fail_at (rb : Nat) (T : TypeId) (s : List UInt8) (l why : Int) (X : List Value) (w : World) (hr : Rd w rb T s l why X) :
  Calls Tryz.prog 59 #[.pointer (some ⟨rb, 0, none⟩)] w fun e w' => FailsAt w rb l why e w' := by
 have c1 := hr.c1
 have c2 := hr.c2
 go_enter Tryz.func59, Tryz.ntmps59
 go_wp2_with fail
 refine (giveUp_at rb T s l why why X w hr).mono ?_
 rintro e w' ⟨rfl, hg⟩
 go_wp2
 exact ⟨rfl, rfl, hg⟩
theorem take_at (rb : Nat) (T : TypeId) (s p : List UInt8) (l why : Int) (X : List Value) (w : World) (hr : Rd w rb T s l why X) (hs : s.length <= 3000) (hp : p.length <= 3000) :
  Calls Tryz.prog 101 #[.pointer (some ⟨rb, 0, none⟩), .string (bs p)] w fun e w' =>
   (∃ r, Code.cut p s = some r /\ e = .returned (.tuple #[]) /\ Rd w' rb T r l why X /\ w.grownBy w' (some rb)) \/ (Code.cut p s = none /\ FailsAt w rb l why e w') := by
 cases hc : Code.cut p s with
 | none =>
  have HC := hide hc
  clear hc
  go_enter Tryz.func101, Tryz.ntmps101
  go_wp2_with fail
  refine (skip_any rb T s p l why X w hr hs hp).mono ?_
  rw [HC.out]
  rintro e w' ⟨rfl, hr', hg⟩
  go_wp2_with fail
  refine (fail_at rb T _ l why X w' hr').mono ?_
  rintro e w'' ⟨rfl, hg'⟩
  go_wp2
  exact ⟨rfl, Or.inr ⟨by simp, rfl, grown_trans hg hg'⟩⟩
 | some r =>
  have HC := hide hc
  clear hc
  go_enter Tryz.func101, Tryz.ntmps101
  go_wp2_with fail
  refine (skip_any rb T s p l why X w hr hs hp).mono ?_
  rw [HC.out]
  rintro e w' ⟨rfl, hr', hg⟩
  go_wp2
  go_end0
  exact Or.inl ⟨r, rfl, rfl, hr', hg⟩
theorem number_noAt (rb : Nat) (T : TypeId) (s : List UInt8) (l why : Int) (X : List Value) (w : World) (hr : Rd w rb T s l why X) (hs : s.length <= 3000) (hb : Code.badDigits (Code.run 48 57 s)) :
  Calls Tryz.prog 158 #[.pointer (some ⟨rb, 0, none⟩)] w fun e w' => FailsAt w rb l why e w' := by
 have hrun := run_any rb T s 48 57 l why X w hr hs
 have hlen := Code.run_length 48 57 s
 generalize Code.run 48 57 s = d at *
 generalize Code.rest 48 57 s = t at *
 have e1 := bs_size d
 have hz : (((bs d).toList == []) = true /\ True /\ True) \/ (((bs d).toList == []) = false /\ 10 < (d.length : Int) /\ True) \/
   (∃ b4 : 0 < (bs d).size, ((bs d).toList == []) = false /\ ¬ 10 < (d.length : Int) /\ (((bs d)[0]'b4).toNat : Int) = 48 /\ ((bs d).toList == [48]) = false) := by
  by_cases b1 : d = []
  ·exact Or.inl ⟨toList_yes (by rw [bl_bs]; exact b1), trivial, trivial⟩
  ·have q1 : ((bs d).toList == []) = false := toList_no (by rw [bl_bs]; exact b1)
   by_cases b2 : 10 < d.length
   ·exact Or.inr (Or.inl ⟨q1, by omega, trivial⟩)
   ·rcases hb with h | h | ⟨h, h'⟩
    ·exact absurd h b1
    ·exact absurd h b2
    ·have b3 : 0 < d.length := List.length_pos_iff.2 b1
     refine Or.inr (Or.inr ⟨by omega, q1, by omega, ?_, toList_no (by rw [bl_bs]; exact h')⟩)
     rw [bs_get d 0 b3]
     rw [List.head?_eq_getElem?, List.getElem?_eq_getElem b3] at h
     exact congrArg (fun c : UInt8 => (c.toNat : Int)) (Option.some.inj h)
 clear hb
 rcases hz with ⟨q1, q2, q3⟩ | ⟨q1, q2, q3⟩ | ⟨b4, q1, q2, q3, q4⟩
 all_goals
  go_enter Tryz.func158, Tryz.ntmps158
  go_wp2_with fail
  refine hrun.mono ?_
  rintro e w' ⟨rfl, hr', hg⟩
  go_wp2_with fail
  refine (fail_at rb T _ l why X w' hr').mono ?_
  rintro e w'' ⟨rfl, hg'⟩
  go_wp2
  exact ⟨rfl, rfl, grown_trans hg hg'⟩
theorem number_at (rb : Nat) (T : TypeId) (s : List UInt8) (l why : Int) (X : List Value) (w : World) (hr : Rd w rb T s l why X) (hs : s.length <= 3000) :
  Calls Tryz.prog 158 #[.pointer (some ⟨rb, 0, none⟩)] w fun e w' =>
   (∃ n t, Code.number s = some (n, t) /\ e = .returned (.int .i64 (n : Nat)) /\ Rd w' rb T t l why X /\ w.grownBy w' (some rb)) \/ (Code.number s = none /\ FailsAt w rb l why e w') := by
 by_cases hb : Code.badDigits (Code.run 48 57 s)
 ·refine (number_noAt rb T s l why X w hr hs hb).mono ?_
  intro e w' h
  exact Or.inr ⟨by simp [Code.number, hb], h⟩
 ·refine (number_yes rb T s l why X w hr hs hb).mono ?_
  rintro e w' ⟨rfl, h, hg⟩
  exact Or.inl ⟨_, _, by simp only [Code.number, if_neg hb], rfl, h, hg⟩
theorem signed_at (rb : Nat) (T : TypeId) (s : List UInt8) (l why : Int) (X : List Value) (w : World) (hr : Rd w rb T s l why X) (hs : s.length <= 3000) :
  Calls Tryz.prog 193 #[.pointer (some ⟨rb, 0, none⟩)] w fun e w' =>
   (∃ n t, Code.signed s = some (n, t) /\ e = .returned (.int .i32 n) /\ Rd w' rb T t l why X /\ w.grownBy w' (some rb)) \/ (Code.signed s = none /\ FailsAt w rb l why e w') := by
 cases hc : Code.cut [45] s with
 | none =>
  have HC := hide hc
  have HS : Hid (Code.signed s = (Code.number s).bind (Code.signedOf false)) := by simp [Hid, Code.signed, hc]
  clear hc
  go_enter Tryz.func193, Tryz.ntmps193
  go_wp2_with fail
  refine (skip_any rb T s [45] l why X w hr hs (by simp)).mono ?_
  rw [HC.out]
  rintro e w1 ⟨rfl, hr1, hg1⟩
  go_wp2_with fail
  refine (number_at rb T s l why X w1 hr1 hs).mono ?_
  rintro e w2 (⟨n, t, hn, rfl, hr2, hg2⟩ | ⟨hn, rfl, hg2⟩)
  ·have hb := (Code.number_some hn).1
   have HN := hide hn
   clear hn
   by_cases hbig : (2147483647 : Int) < (n : Int)
   ·have HB : Hid (Code.signed s = none) := by rw [HS.out, HN.out]; exact Code.signedOf_plus_big (by omega)
    go_wp2_with fail
    refine (fail_at rb T _ l why X w2 hr2).mono ?_
    rintro e w3 ⟨rfl, hg3⟩
    go_wp2
    exact ⟨rfl, Or.inr ⟨HB.out, rfl, grown_trans hg1 (grown_trans hg2 hg3)⟩⟩
   ·have HB : Hid (Code.signed s = some ((n : Int), t)) := by rw [HS.out, HN.out]; exact Code.signedOf_plus (by omega)
    go_wp2
    go_ret
    exact Or.inl ⟨n, t, HB.out, rfl, hr2, grown_trans hg1 hg2⟩
  ·go_wp2
   exact ⟨rfl, Or.inr ⟨by rw [HS.out, hn]; rfl, rfl, grown_trans hg1 hg2⟩⟩
 | some r =>
  have HC := hide hc
  have HS : Hid (Code.signed s = (Code.number r).bind (Code.signedOf true)) := by simp [Hid, Code.signed, hc]
  have hrl : r.length <= 3000 := by rw [Code.cut_some hc] at hs; simp at hs; omega
  clear hc
  go_enter Tryz.func193, Tryz.ntmps193
  go_wp2_with fail
  refine (skip_any rb T s [45] l why X w hr hs (by simp)).mono ?_
  rw [HC.out]
  rintro e w1 ⟨rfl, hr1, hg1⟩
  go_wp2_with fail
  refine (number_at rb T r l why X w1 hr1 hrl).mono ?_
  rintro e w2 (⟨n, t, hn, rfl, hr2, hg2⟩ | ⟨hn, rfl, hg2⟩)
  ·have hb := (Code.number_some hn).1
   have HN := hide hn
   clear hn
   by_cases hz : n = 0
   ·have HB : Hid (Code.signed s = none) := by rw [HS.out, HN.out]; exact Code.signedOf_zero hz
    have hz' : ((n : Int) == 0) = true := by simp [hz]
    clear hz
    go_wp2_with fail
    refine (fail_at rb T _ l why X w2 hr2).mono ?_
    rintro e w3 ⟨rfl, hg3⟩
    go_wp2
    exact ⟨rfl, Or.inr ⟨HB.out, rfl, grown_trans hg1 (grown_trans hg2 hg3)⟩⟩
   ·have hz' : ((n : Int) == 0) = false := beq_eq_false_iff_ne.2 (by omega)
    by_cases hbig : 2147483648 < n
    ·have HB : Hid (Code.signed s = none) := by rw [HS.out, HN.out]; exact Code.signedOf_minus_big hbig
     have hq : -(n : Int) < -2147483648 := by omega
     clear hz hbig
     go_wp2_with fail
     refine (fail_at rb T _ l why X w2 hr2).mono ?_
     rintro e w3 ⟨rfl, hg3⟩
     go_wp2
     exact ⟨rfl, Or.inr ⟨HB.out, rfl, grown_trans hg1 (grown_trans hg2 hg3)⟩⟩
    ·have HB : Hid (Code.signed s = some (-(n : Int), t)) := by rw [HS.out, HN.out]; exact Code.signedOf_minus (by omega) (by omega)
     have hq : ¬ -(n : Int) < -2147483648 := by omega
     have hq' : ¬ 2147483647 < -(n : Int) := by omega
     clear hz
     go_wp2
     go_ret
     exact Or.inl ⟨_, t, HB.out, rfl, hr2, grown_trans hg1 hg2⟩
  ·go_wp2
   exact ⟨rfl, Or.inr ⟨by rw [HS.out, hn]; rfl, rfl, grown_trans hg1 hg2⟩⟩
end Go.Proofs.YtedkjanogjglkaaGreatDoor
namespace Go.Proofs.YtedkjanogjglkaaGreatDoor.Code
def idle (s : List UInt8) : Prop := s = [] \/ s.head? = some 59
instance (s : List UInt8) : Decidable (idle s) := by unfold idle; infer_instance
def headOf (s : List UInt8) : List UInt8 := s.takeWhile (· != 10)
def nextOf (s : List UInt8) : List UInt8 := (s.dropWhile (· != 10)).tail
inductive RulesS : Nat -> List UInt8 -> Except (Nat × Int) (List CRule) -> Prop
 | done {n : Nat} : RulesS n [] (.ok [])
 | open_ {n : Nat} {s : List UInt8} : s ≠ [] -> 10 ∉ s -> RulesS n s (.error (n, 6))
 | idle {n : Nat} {s : List UInt8} {o : Except (Nat × Int) (List CRule)} : 10 ∈ s -> idle (headOf s) -> RulesS (n + 1) (nextOf s) o -> RulesS n s o
 | bad {n : Nat} {s : List UInt8} {e : Int} : 10 ∈ s -> ¬ Code.idle (headOf s) -> lineS (headOf s) = .error e -> RulesS n s (.error (n, e))
 | more {n : Nat} {s : List UInt8} {nd rs : RTree} {ns : List Nm} {o : Except (Nat × Int) (List CRule)} : 10 ∈ s -> ¬ Code.idle (headOf s) -> lineS (headOf s) = .ok (nd, rs, ns) -> RulesS (n + 1) (nextOf s) o ->
   RulesS n s (o.map fun l => ⟨nd, rs, ns⟩ :: l)
theorem nextOf_length : ∀ {s : List UInt8}, 10 ∈ s -> (nextOf s).length < s.length /\ s = headOf s ++ 10 :: nextOf s
 | [], h => by cases h
 | a :: s, h => by
  by_cases ha : a = 10
  ·subst ha
   simp [nextOf, headOf]
  ·have hm : 10 ∈ s := by
    rcases List.mem_cons.1 h with h | h
    ·exact absurd h.symm ha
    ·exact h
   have hb : (a != 10) = true := by simpa using ha
   obtain ⟨h1, h2⟩ := nextOf_length hm
   have e1 : nextOf (a :: s) = nextOf s := by unfold nextOf; rw [List.dropWhile_cons, if_pos hb]
   have e2 : headOf (a :: s) = a :: headOf s := by unfold headOf; rw [List.takeWhile_cons, if_pos hb]
   rw [e1, e2]
   refine ⟨by simp; omega, ?_⟩
   rw [List.cons_append, <- h2]
end Go.Proofs.YtedkjanogjglkaaGreatDoor.Code
namespace Go.Proofs.YtedkjanogjglkaaGreatDoor
open Go.RowKit
open Go.Proofs.YtedkjanogjglkaaGreatDoor.Code (RTree Nm RSt Prs)
structure Kin (w w' : World) (rb B : Nat) : Prop where
 os : w'.os = w.os
 tape : w'.tape = w.tape
 output : w'.output = w.output
 size : w.heap.size <= w'.heap.size
 block : ∀ k o, w.heap[k]? = some o -> k ≠ rb -> (k < B \/ ∀ C z, o ≠ .cells C 315 z) -> w'.heap[k]? = some o
theorem Kin.trans {a b c : World} {rb B : Nat} (h : Kin a b rb B) (k : Kin b c rb B) : Kin a c rb B :=
 ⟨k.os.trans h.os, k.tape.trans h.tape, k.output.trans h.output, Nat.le_trans h.size k.size, fun i o hi hn ht => k.block i o (h.block i o hi hn ht) hn ht⟩
theorem Kin.grown {w w' : World} {rb B : Nat} (h : w.grownBy w' (some rb)) : Kin w w' rb B :=
 ⟨h.os, h.tape, h.output, h.size, fun k _ hk hn _ => (h.block k (lt_of_block hk) (by simpa using hn)).trans hk⟩
theorem Kin.below {w w' : World} {rb B : Nat} (h : Below w.heap.size w w') : Kin w w' rb B :=
 ⟨h.os, h.tape, h.output, h.size, fun k _ hk _ _ => (h.block k (lt_of_block hk)).trans hk⟩
theorem Kin.drewN {w w' : World} {rb B : Nat} (h : Kin w w' rb B) (n : Nat) : Kin w (w'.drewN n) rb B := ⟨h.os, h.tape, h.output, h.size, h.block⟩
theorem Kin.alloc {w w' : World} {rb B : Nat} (h : Kin w w' rb B) (o : Obj) : Kin w (w'.alloc o) rb B :=
 ⟨h.os, h.tape, h.output, by have := h.size; simp; omega, fun k p hk hn ht => stay_alloc (h.block k p hk hn ht)⟩
theorem Kin.set_new {w w' : World} {rb B : Nat} (h : Kin w w' rb B) {b : Nat} (hb : w.heap.size <= b) (o : Nat) (v : Value) : Kin w (w'.setCell ⟨b, o, none⟩ v) rb B :=
 ⟨h.os, h.tape, h.output, by rw [size_set]; exact h.size, fun k p hk hn ht => stay_set (h.block k p hk hn ht) (by have := lt_of_block hk; show k ≠ b; omega)⟩
theorem Kin.tab {w w' : World} {rb B : Nat} (h : Kin w w' rb B) (hrb : 0 < rb) (hB : 0 < B) (ht : Tab w) : Tab w' := by
 intro j v hv
 have h1 := ht j v hv
 cases hh : w.heap[0]? with
 | none => simp [World.cell?, hh] at h1
 | some o =>
  have h2 := h.block 0 o hh (by omega) (Or.inl hB)
  simpa [World.cell?, h2, hh] using h1
def nmCells (l : List Nm) : List Value := l.flatMap fun p => [.string (bs p.1), .bool p.2]
theorem nmCells_snoc (l : List Nm) (p : Nm) : nmCells (l ++ [p]) = nmCells l ++ [.string (bs p.1), .bool p.2] := by simp [nmCells]
theorem nmCells_get (l : List Nm) (k : Nat) (h : k < l.length) : (nmCells l)[k * 2]? = some (.string (bs (l[k]).1)) /\ (nmCells l)[k * 2 + 1]? = some (.bool (l[k]).2) := by
 induction l generalizing k with
 | nil => simp at h
 | cons p l ih =>
  cases k with
  | zero => simp [nmCells]
  | succ k =>
   obtain ⟨h1, h2⟩ := ih k (by simpa using h)
   simp only [nmCells, List.flatMap_cons, List.getElem_cons_succ] at *
   rw [show (k + 1) * 2 = k * 2 + 2 by omega, show k * 2 + 2 + 1 = k * 2 + 1 + 2 by omega]
   exact ⟨by simpa using h1, by simpa using h2⟩
def Rdr (w : World) (rb B : Nat) (s : List UInt8) (l : Int) (st : RSt) : Prop :=
 ∃ nv, Rd w rb 115 s l 6 [nv, .bool st.unbound] /\ w.ownsRow B 315 2 nv st.names.length (nmCells st.names)
theorem Rdr.grown {w w' : World} {rb B : Nat} {s : List UInt8} {l : Int} {st : RSt} {nv : Value} (hr : Rd w rb 115 s l 6 [nv, .bool st.unbound]) (ho : w.ownsRow B 315 2 nv st.names.length (nmCells st.names)) {s' : List UInt8}
  (hr' : Rd w' rb 115 s' l 6 [nv, .bool st.unbound]) (hg : w.grownBy w' (some rb)) : Rdr w' rb B s' l st := ⟨nv, hr', own_kept hr hg ho (by decide)⟩
def FailsK (w : World) (rb B : Nat) (l why : Int) (e : Ending) (w' : World) : Prop :=
 e = .panicked [{ v := .iface 61 (.agg #[.int .i64 why, .int .i64 l]), recovered := false }] /\ Kin w w' rb B
theorem FailsAt.kin {w w' : World} {rb : Nat} {B : Nat} {l why : Int} {e : Ending} (h : FailsAt w rb l why e w') : FailsK w rb B l why e w' := ⟨h.1, Kin.grown h.2⟩
mutual
def RepT (w : World) (base : Nat) (res : Bool) (L : Int -> Nm -> Prop) : Value -> RTree -> Prop
 | v, .name x => ∃ i : Int, v = .iface 225 (.agg #[.int .i64 i]) /\ L i (x, false)
 | v, .hash x => ∃ i : Int, v = .iface 316 (.agg #[.int .i64 i]) /\ L i (x, true)
 | v, .num c => v = .iface 313 (.agg #[.int .i32 c]) /\ -2147483648 <= c /\ c <= 2147483647
 | v, .op k kids => ∃ sv vs, v = .iface (if res = true then 271 else 119) (.agg #[.int .i64 (k : Nat), sv]) /\ k < 13 /\ vs.length = Code.opOf k /\ w.ownsRow base (if res = true then 121 else 262) 1 sv vs.length vs /\ RepTs w base res L vs kids
 | v, .fold k kids => ∃ sv vs, v = .iface 266 (.agg #[.int .i64 (k : Nat), sv]) /\ k < 13 /\ vs.length = Code.opOf k /\ w.ownsRow base 121 1 sv vs.length vs /\ RepTs w base res L vs kids
def RepTs (w : World) (base : Nat) (res : Bool) (L : Int -> Nm -> Prop) : List Value -> List RTree -> Prop
 | [], [] => True
 | v :: vs, t :: ts => RepT w base res L v t /\ RepTs w base res L vs ts
 | _, _ => False
end
def KeepsT (w w' : World) (base : Nat) : Prop := ∀ (b : Nat) (C : Array Value) (T : TypeId) (z : Nat × Nat), w.heap[b]? = some (.cells C T z) -> T = 262 \/ T = 121 -> base <= b -> w'.heap[b]? = some (.cells C T z)
theorem KeepsT.own {w w' : World} {base : Nat} (h : KeepsT w w' base) {e size n : Nat} {v : Value} {xs : List Value} (he : e = 262 \/ e = 121) (ho : w.ownsRow base e size v n xs) : w'.ownsRow base e size v n xs := by
 refine ⟨ho.1, ?_⟩
 rcases ho.2 with h0 | ⟨g, cap, cur, hv, hbg, hgg, r⟩
 ·exact Or.inl h0
 ·exact Or.inr ⟨g, cap, cur, hv, hbg, h g _ _ _ hgg he hbg, r⟩
mutual
theorem RepT.kept {w w' : World} {base base' : Nat} {res : Bool} {L L' : Int -> Nm -> Prop} (hk : KeepsT w w' base) (hb : base' <= base) (hL : ∀ i p, L i p -> L' i p) : ∀ (t : RTree) (v : Value), RepT w base res L v t -> RepT w' base' res L' v t
 | .name x, v, h => by
  obtain ⟨i, h1, h2⟩ := h
  exact ⟨i, h1, hL _ _ h2⟩
 | .hash x, v, h => by
  obtain ⟨i, h1, h2⟩ := h
  exact ⟨i, h1, hL _ _ h2⟩
 | .num c, v, h => h
 | .op k kids, v, h => by
  obtain ⟨sv, vs, h1, h2, h3, h4, h5⟩ := h
  refine ⟨sv, vs, h1, h2, h3, own_base (hk.own ?_ h4) hb, RepTs.kept hk hb hL kids vs h5⟩
  cases res
  ·exact Or.inl rfl
  ·exact Or.inr rfl
 | .fold k kids, v, h => by
  obtain ⟨sv, vs, h1, h2, h3, h4, h5⟩ := h
  exact ⟨sv, vs, h1, h2, h3, own_base (hk.own (Or.inr rfl) h4) hb, RepTs.kept hk hb hL kids vs h5⟩
theorem RepTs.kept {w w' : World} {base base' : Nat} {res : Bool} {L L' : Int -> Nm -> Prop} (hk : KeepsT w w' base) (hb : base' <= base) (hL : ∀ i p, L i p -> L' i p) : ∀ (ts : List RTree) (vs : List Value), RepTs w base res L vs ts -> RepTs w' base' res L' vs ts
 | [], [], _ => trivial
 | t :: ts, v :: vs, h => ⟨RepT.kept hk hb hL t v h.1, RepTs.kept hk hb hL ts vs h.2⟩
 | [], _ :: _, h => h.elim
 | _ :: _, [], h => h.elim
end
theorem RepTs.length {w : World} {base : Nat} {res : Bool} {L : Int -> Nm -> Prop} : ∀ {vs : List Value} {ts : List RTree}, RepTs w base res L vs ts -> vs.length = ts.length
 | [], [], _ => rfl
 | _ :: _, _ :: _, h => by simp [RepTs.length h.2]
 | [], _ :: _, h => h.elim
 | _ :: _, [], h => h.elim
theorem RepTs.snoc {w : World} {base : Nat} {res : Bool} {L : Int -> Nm -> Prop} : ∀ {vs : List Value} {ts : List RTree} {v : Value} {t : RTree}, RepTs w base res L vs ts -> RepT w base res L v t -> RepTs w base res L (vs ++ [v]) (ts ++ [t])
 | [], [], _, _, _, h => ⟨h, trivial⟩
 | _ :: _, _ :: _, _, _, h, k => ⟨h.1, RepTs.snoc h.2 k⟩
 | [], _ :: _, _, _, h, _ => h.elim
 | _ :: _, [], _, _, h, _ => h.elim
theorem Kin.keeps {w w' : World} {rb B base : Nat} (h : Kin w w' rb B) {s : List UInt8} {l : Int} {X : List Value} (hb : Rd w rb 115 s l 6 X) : KeepsT w w' base := by
 intro b C T z hc hT _
 refine h.block b _ hc ?_ (Or.inr ?_)
 ·rintro rfl
  unfold Rd at hb
  rw [hb] at hc
  simp only [Option.some.injEq, Obj.cells.injEq] at hc
  rcases hT with rfl | rfl
  ·exact absurd hc.2.1 (by decide)
  ·exact absurd hc.2.1 (by decide)
 ·intro C' z' hh
  simp only [Obj.cells.injEq] at hh
  rcases hT with rfl | rfl
  ·exact absurd hh.2.1 (by decide)
  ·exact absurd hh.2.1 (by decide)
theorem keeps_set {w : World} {base b o : Nat} {v : Value} (h : b < base) : KeepsT w (w.setCell ⟨b, o, none⟩ v) base :=
 fun k _ _ _ hc _ hk => stay_set hc (by show k ≠ b; omega)
theorem keeps_refl (w : World) (base : Nat) : KeepsT w w base := fun _ _ _ _ hc _ _ => hc
def LP (st : RSt) (i : Int) (p : Nm) : Prop := ∃ k : Nat, i = k /\ st.names[k]? = some p
def LR (st : RSt) (i : Int) (p : Nm) : Prop := i = match Code.slotOf st.names p with
 | some k => (k : Int)
 | none => -1
def TreePost (o : Option (RTree × RSt × List UInt8)) (w : World) (rb B : Nat) (l : Int) (res : Bool) (L : RSt -> Int -> Nm -> Prop) (e : Ending) (w' : World) : Prop :=
 (∃ t st r v, o = some (t, st, r) /\ e = .returned v /\ Rdr w' rb B r l st /\ RepT w' w.heap.size res (L st) v t /\ Kin w w' rb B) \/ (o = none /\ FailsK w rb B l 6 e w')
def operK (f : Prs) (st : RSt) (s : List UInt8) : Option (Nat × List RTree × RSt × List UInt8) :=
 (Code.cut [40] s).bind fun s => (Code.opNamed (Code.word s)).bind fun k => (Code.kidsS f (Code.opOf k) st (Code.behind s)).bind fun p => (Code.cut [41] p.2.2).map fun r => (k, p.1, p.2.1, r)
theorem operS_eq (f : Prs) (mk : Nat -> List RTree -> RTree) (st : RSt) (s : List UInt8) : Code.operS f mk st s = (operK f st s).map fun p => (mk p.1 p.2.1, p.2.2) := by
 unfold Code.operS operK
 cases Code.cut [40] s with
 | none => rfl
 | some r =>
  simp only [Option.bind_some]
  cases Code.opNamed (Code.word r) with
  | none => rfl
  | some k =>
   simp only [Option.bind_some]
   cases Code.kidsS f (Code.opOf k) st (Code.behind r) with
   | none => rfl
   | some p =>
    simp only [Option.bind_some]
    cases Code.cut [41] p.2.2 <;> rfl
def OperPost (o : Option (Nat × List RTree × RSt × List UInt8)) (w : World) (rb B : Nat) (l : Int) (res : Bool) (L : RSt -> Int -> Nm -> Prop) (e : Ending) (w' : World) : Prop :=
 (∃ k ts st r sv vs, o = some (k, ts, st, r) /\ k < 13 /\ e = .returned (.tuple #[.int .i64 (k : Nat), sv]) /\ Rdr w' rb B r l st /\ vs.length = Code.opOf k /\ w'.ownsRow w.heap.size (if res = true then 121 else 262) 1 sv vs.length vs /\ RepTs w' w.heap.size res (L st) vs ts /\ Kin w w' rb B) \/ (o = none /\ FailsK w rb B l 6 e w')
def Reads (K : Nat) (d : Int) (f : Prs) (res : Bool) (L : RSt -> Int -> Nm -> Prop) : Prop :=
 ∀ (rb B : Nat) (s : List UInt8) (l : Int) (st : RSt) (w : World), Rdr w rb B s l st -> s.length <= 3000 -> st.names.length + s.length <= 6000 -> Tab w -> 0 < rb -> 0 < B -> B <= w.heap.size ->
  Calls Tryz.prog K #[.pointer (some ⟨rb, 0, none⟩), .int .i64 d] w fun e w' => TreePost (f st s) w rb B l res L e w'
end Go.Proofs.YtedkjanogjglkaaGreatDoor
