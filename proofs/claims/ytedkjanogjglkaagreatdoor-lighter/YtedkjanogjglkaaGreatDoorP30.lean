/-
  Parts of the proof: RwStep, RwStep2, RwStep3, RRwC, LLightP, CEval, CCheck, CTexts.
-/
import Derived.Test.YtedkjanogjglkaaGreatDoorP29
import Derived.Lib.ItoaMem
import Derived.Test.YtedkjanogjglkaaGreatDoorP10
import Derived.KernelRfl
set_option maxRecDepth 100000
set_option maxHeartbeats 8000000
namespace Go.Proofs.YtedkjanogjglkaaGreatDoor.Code
theorem things_place {f : List Blk} {n : Nat} {t : Thing} (h : things f n = some t) : ∃ (a q : Nat) (b : Blk) (v : Val), f[a]? = some b /\ b.values[q]? = some v /\ v.num = n /\ v.thing = t := by
 unfold things at h
 rw [Option.map_eq_some_iff] at h
 obtain ⟨v, hv, rfl⟩ := h
 have h1 := List.mem_of_find?_eq_some hv
 have h2 := List.find?_some hv
 obtain ⟨b, hb, hvb⟩ := List.mem_flatMap.1 h1
 obtain ⟨a, ha, rfl⟩ := List.getElem_of_mem hb
 obtain ⟨q, hq, rfl⟩ := List.getElem_of_mem hvb
 exact ⟨a, q, _, _, List.getElem?_eq_getElem ha, List.getElem?_eq_getElem hq, by simpa using h2, rfl⟩
theorem UsesQ.deep {E : Nat -> List Nat} {f : List Blk} (hu : UsesQ E f) (huq : Uniq f) (hr : ∀ j, j < f.length -> Rch f j) {i k n o : Nat} {of : List Nat} (hi : i < f.length) (hn : MadeC f n i k) (ht : things f n = some (.apply o of)) : ∀ x ∈ of, MadeC f x i k := by
 intro x hx
 obtain ⟨a, q, b, v, hb, hv, hnum, hth⟩ := things_place ht
 exact MadeC.trans huq hr (AtP.mk hb hv hnum) (hu.app a q b v o of hb hv hth x hx) hn hi
mutual
theorem fits_made {E : Nat -> List Nat} {f : List Blk} (hu : UsesQ E f) (huq : Uniq f) (hr : ∀ j, j < f.length -> Rch f j) {i k : Nat} (hi : i < f.length) : ∀ (t : RTree) (n : Nat) (kn kn' : Known), MadeC f n i k -> (∀ e ∈ kn, MadeC f e.2 i k) -> fits (things f) t n kn = some kn' -> ∀ e ∈ kn', MadeC f e.2 i k
 | .num c, n, kn, kn', _, hk, h => by
  simp only [fits] at h
  split at h
  ·simp only [Option.some.injEq] at h; subst h; exact hk
  ·cases h
 | .name w, n, kn, kn', hn, hk, h => by
  simp only [fits] at h
  split at h
  ·split at h
   ·simp only [Option.some.injEq] at h; subst h; exact hk
   ·cases h
  ·simp only [Option.some.injEq] at h; subst h
   intro e he
   rcases List.mem_append.1 he with he | he
   ·exact hk e he
   ·simp only [List.mem_cons, List.not_mem_nil, or_false] at he
    subst he; exact hn
 | .hash w, n, kn, kn', hn, hk, h => by
  simp only [fits] at h
  split at h
  ·cases h
  ·split at h
   ·split at h
    ·simp only [Option.some.injEq] at h; subst h; exact hk
    ·cases h
   ·simp only [Option.some.injEq] at h; subst h
    intro e he
    rcases List.mem_append.1 he with he | he
    ·exact hk e he
    ·simp only [List.mem_cons, List.not_mem_nil, or_false] at he
     subst he; exact hn
 | .op o kids, n, kn, kn', hn, hk, h => by
  simp only [fits] at h
  split at h
  ·rename_i j of hj
   split at h
   ·rename_i e
    subst e
    exact fitsAll_made hu huq hr hi kids of kn kn' (hu.deep huq hr hi hn hj) hk h
   ·cases h
  ·cases h
 | .fold _ _, n, kn, kn', _, _, h => by simp [fits] at h
theorem fitsAll_made {E : Nat -> List Nat} {f : List Blk} (hu : UsesQ E f) (huq : Uniq f) (hr : ∀ j, j < f.length -> Rch f j) {i k : Nat} (hi : i < f.length) : ∀ (l : List RTree) (of : List Nat) (kn kn' : Known), (∀ x ∈ of, MadeC f x i k) -> (∀ e ∈ kn, MadeC f e.2 i k) -> fitsAll (things f) l of kn = some kn' -> ∀ e ∈ kn', MadeC f e.2 i k
 | [], of, kn, kn', _, hk, h => by
  simp only [fitsAll, Option.some.injEq] at h; subst h; exact hk
 | _ :: _, [], kn, kn', _, _, h => by simp [fitsAll] at h
 | t :: l, n :: of, kn, kn', hof, hk, h => by
  simp only [fitsAll, Option.bind_eq_some_iff] at h
  obtain ⟨k1, h1, h2⟩ := h
  exact fitsAll_made hu huq hr hi l of k1 kn' (fun x hx => hof x (List.mem_cons_of_mem _ hx)) (fits_made hu huq hr hi t n kn k1 (hof n (List.mem_cons_self ..)) hk h1) h2
end
theorem fitsAt_made {E : Nat -> List Nat} {f : List Blk} (hu : UsesQ E f) (ho : OnceN f) (hr : ∀ j, j < f.length -> Rch f j) {i k : Nat} {b : Blk} {v : Val} (hb : f[i]? = some b) (hv : b.values[k]? = some v) {o : Nat} {kids : List RTree} {kn : Known} (h : fits (things f) (.op o kids) v.num [] = some kn) : ∀ e ∈ kn, MadeC f e.2 i k := by
 obtain ⟨of, hof⟩ := fits_op h
 have hvt := things_at ho (List.mem_of_getElem? hb) (List.mem_of_getElem? hv)
 rw [hvt, Option.some.injEq] at hof
 simp only [fits] at h
 rw [hvt, hof] at h
 simp only [if_true] at h
 exact fitsAll_made hu (once_uniq ho) hr (List.getElem?_eq_some_iff.1 hb).1 kids of [] kn (hu.app i k b v o of hb hv hof) (by simp) h
structure MkUse (f : List Blk) (i k : Nat) (l : List Val) : Prop where
 phi : ∀ u ∈ l, ∀ of, u.thing ≠ .phi of
 app : ∀ (q : Nat) (u : Val), l[q]? = some u -> ∀ o of, u.thing = .apply o of -> ∀ x ∈ of, MadeC f x i k \/ ∃ (q' : Nat) (u' : Val), q' < q /\ l[q']? = some u' /\ u'.num = x
def Had (f : List Blk) (i k : Nat) (l : List Val) (x : Nat) : Prop := MadeC f x i k \/ ∃ (q' : Nat) (u' : Val), l[q']? = some u' /\ u'.num = x
theorem Had.more {f : List Blk} {i k x : Nat} {l m : List Val} (h : Had f i k l x) : Had f i k (l ++ m) x := by
 rcases h with h | ⟨q, u, hq, hx⟩
 ·exact Or.inl h
 ·exact Or.inr ⟨q, u, (List.getElem?_append_left (List.getElem?_eq_some_iff.1 hq).1).trans hq, hx⟩
theorem MkUse.snoc {f : List Blk} {i k : Nat} {l : List Val} (h : MkUse f i k l) {u : Val} (hp : ∀ of, u.thing ≠ .phi of) (ha : ∀ o of, u.thing = .apply o of -> ∀ x ∈ of, Had f i k l x) : MkUse f i k (l ++ [u]) := by
 refine ⟨fun w hw => ?_, fun q w hq o of hth x hx => ?_⟩
 ·rcases List.mem_append.1 hw with hw | hw
  ·exact h.phi w hw
  ·simp only [List.mem_cons, List.not_mem_nil, or_false] at hw
   subst hw; exact hp
 ·by_cases hlt : q < l.length
  ·rw [List.getElem?_append_left hlt] at hq
   rcases h.app q w hq o of hth x hx with h1 | ⟨q', u', h1, h2, h3⟩
   ·exact Or.inl h1
   ·exact Or.inr ⟨q', u', h1, (List.getElem?_append_left (by omega)).trans h2, h3⟩
  ·have hql : q = l.length := by
    have := (List.getElem?_eq_some_iff.1 hq).1
    simp at this; omega
   subst hql
   rw [List.getElem?_append_right (Nat.le_refl _)] at hq
   simp only [Nat.sub_self, List.getElem?_cons_zero, Option.some.injEq] at hq
   subst hq
   rcases ha o of hth x hx with h1 | ⟨q', u', h2, h3⟩
   ·exact Or.inl h1
   ·have := (List.getElem?_eq_some_iff.1 h2).1
    exact Or.inr ⟨q', u', this, (List.getElem?_append_left this).trans h2, h3⟩
theorem MkUse.put {f : List Blk} {i k : Nat} {th : Nat -> Option Thing} {m : Mk} (h : MkUse f i k m.made) {t : Thing} (hp : ∀ of, t ≠ .phi of) (ha : ∀ o of, t = .apply o of -> ∀ x ∈ of, Had f i k m.made x) : MkUse f i k (m.put th t).2.made /\ Had f i k (m.put th t).2.made (m.put th t).1 /\ ∃ r, (m.put th t).2.made = m.made ++ r := by
 unfold Mk.put
 refine ⟨h.snoc hp ha, Or.inr ⟨m.made.length, ⟨freeFrom th m.next, t⟩, ?_, rfl⟩, [_], rfl⟩
 rw [List.getElem?_append_right (Nat.le_refl _)]
 simp
mutual
theorem mkVal_use {f : List Blk} {i k : Nat} (th : Nat -> Option Thing) (kn : Known) : ∀ (t : RTree) (m : Mk), (∀ p ∈ t.names, MadeC f (knownV kn p.1) i k) -> MkUse f i k m.made -> MkUse f i k (mkVal th kn t m).2.made /\ Had f i k (mkVal th kn t m).2.made (mkVal th kn t m).1 /\ ∃ r, (mkVal th kn t m).2.made = m.made ++ r
 | .name x, m, hb, hm => ⟨hm, Or.inl (hb (x, false) (by simp [RTree.names])), [], by simp [mkVal]⟩
 | .hash x, m, _, hm => hm.put (fun _ h => by cases h) (fun _ _ h => by cases h)
 | .num c, m, _, hm => hm.put (fun _ h => by cases h) (fun _ _ h => by cases h)
 | .fold _ _, m, _, hm => hm.put (fun _ h => by cases h) (fun _ _ h => by cases h)
 | .op o kids, m, hb, hm => by
  obtain ⟨a1, a2, r1, a3⟩ := mkAll_use th kn kids m (by simpa [RTree.names] using hb) hm
  obtain ⟨b1, b2, r2, b3⟩ := a1.put (th := th) (t := .apply o (mkAll th kn kids m).1) (fun _ h => by cases h) (fun o' of' h x hx => by
   simp only [Thing.apply.injEq] at h
   exact a2 x (by rw [h.2]; exact hx))
  exact ⟨b1, b2, r1 ++ r2, by simp only [mkVal]; rw [b3, a3, List.append_assoc]⟩
theorem mkAll_use {f : List Blk} {i k : Nat} (th : Nat -> Option Thing) (kn : Known) : ∀ (l : List RTree) (m : Mk), (∀ p ∈ namesAll l, MadeC f (knownV kn p.1) i k) -> MkUse f i k m.made -> MkUse f i k (mkAll th kn l m).2.made /\ (∀ x ∈ (mkAll th kn l m).1, Had f i k (mkAll th kn l m).2.made x) /\ ∃ r, (mkAll th kn l m).2.made = m.made ++ r
 | [], m, _, hm => ⟨hm, by simp [mkAll], [], by simp [mkAll]⟩
 | t :: l, m, hb, hm => by
  obtain ⟨a1, a2, r1, a3⟩ := mkVal_use th kn t m (fun p hp => hb p (by simp [namesAll, hp])) hm
  obtain ⟨b1, b2, r2, b3⟩ := mkAll_use th kn l (mkVal th kn t m).2 (fun p hp => hb p (by simp [namesAll, hp])) a1
  simp only [mkAll]
  refine ⟨b1, fun x hx => ?_, r1 ++ r2, by rw [b3, a3, List.append_assoc]⟩
  rcases List.mem_cons.1 hx with hx | hx
  ·subst hx
   rw [b3]
   exact a2.more
  ·exact b2 x hx
end
theorem mkThing_use {f : List Blk} {i k : Nat} (th : Nat -> Option Thing) (kn : Known) (t : RTree) (ht : ∀ x, t ≠ .name x) (hb : ∀ p ∈ t.names, MadeC f (knownV kn p.1) i k) : MkUse f i k (mkThing th kn t ⟨[], 0⟩).2.made /\ (∀ of, (mkThing th kn t ⟨[], 0⟩).1 ≠ .phi of) /\ ∀ o of, (mkThing th kn t ⟨[], 0⟩).1 = .apply o of -> ∀ x ∈ of, Had f i k (mkThing th kn t ⟨[], 0⟩).2.made x := by
 have h0 : MkUse f i k ([] : List Val) := ⟨by simp, by simp⟩
 cases t with
 | name x => exact absurd rfl (ht x)
 | hash x => exact ⟨h0, (fun _ h => by cases h), (fun _ _ h => by cases h)⟩
 | num c => exact ⟨h0, (fun _ h => by cases h), (fun _ _ h => by cases h)⟩
 | fold o l => exact ⟨h0, (fun _ h => by cases h), (fun _ _ h => by cases h)⟩
 | op o kids =>
  obtain ⟨a1, a2, _⟩ := mkAll_use th kn kids ⟨[], 0⟩ (by simpa [RTree.names] using hb) h0
  refine ⟨a1, (fun _ h => by cases h), fun o' of h x hx => ?_⟩
  simp only [mkThing, Thing.apply.injEq] at h
  exact a2 x (by rw [h.2]; exact hx)
theorem RuleOk.knownIn {R : CRule} (h : RuleOk R) {th : Nat -> Option Thing} {n : Nat} {kn : Known} (hk : Code.fits th R.node n [] = some kn) : ∀ p ∈ R.result.names, ∃ e ∈ kn, e.2 = knownV kn p.1 := by
 intro p hp
 rw [h.fits, Option.map_eq_some_iff] at hk
 obtain ⟨of, hof, rfl⟩ := hk
 have hl := ((cfits_fits th R.names h.dist R.node n [] R.names.length h.plain (fun p hp => (h.mem p).2 hp) (by intro i x _ v hv; simp at hv) h.trav).2 of hof).2
 obtain ⟨s, hs⟩ := Option.isSome_iff_exists.1 (h.bound p hp)
 obtain ⟨hsl, hke⟩ := known_slot h hl hs
 obtain ⟨hsn, _, _⟩ := List.findIdx?_eq_some_iff_getElem.1 hs
 refine ⟨(R.names[s].1, of[s]), ?_, hke.symm⟩
 unfold knOf
 refine List.mem_of_getElem? (i := s) ?_
 rw [List.getElem?_zip_eq_some]
 exact ⟨by simp [hsn], List.getElem?_eq_getElem hsl⟩
theorem stepI_uses {E : Nat -> List Nat} {f : List Blk} (hu : UsesQ E f) (ho : OnceN f) (hr : ∀ j, j < f.length -> Rch f j) {p : Pair} {b : Blk} {v : Val} {kn : Known} (hR : RuleOk p.rule) (hb : f[p.block]? = some b) (hv : b.values[p.index]? = some v) (hk : fits (things f) p.rule.node v.num [] = some kn) : UsesQ E (stepI f p v.num kn) := by
 obtain ⟨o, kids, hnode, _⟩ := hR.node
 have hmade : ∀ e ∈ kn, MadeC f e.2 p.block p.index := by
  have h := hk
  rw [hnode] at h
  exact fitsAt_made hu ho hr hb hv h
 have hknown : ∀ q ∈ p.rule.result.names, MadeC f (knownV kn q.1) p.block p.index := by
  intro q hq
  obtain ⟨e, he, hee⟩ := hR.knownIn hk q hq
  rw [<- hee]
  exact hmade e he
 unfold stepI
 split
 ·rename_i w hw
  exact hu.cut (once_uniq ho) hr hb hv (hknown (w, false) (by rw [hw]; simp [RTree.names]))
 ·rename_i hw
  obtain ⟨h1, h2, h3⟩ := mkThing_use (f := f) (i := p.block) (k := p.index) (things f) kn p.rule.result hw hknown
  exact hu.put hb hv h1.phi h2 h1.app h3
open Go.Proofs.YtedkjanogjglkaaGreatDoor.D.Ref (toV toL toB toF mkBlk)
theorem onceN_once : ∀ {bks : List Blk} {R : List Bool}, R.length = 60 -> (∀ b ∈ bks, ∀ v ∈ b.values, v.num < 60) -> (∀ b ∈ bks, ∀ v ∈ b.values, R.getD v.num false = false) -> OnceN bks -> Once R bks
 | [], _, _, _, _, _ => trivial
 | b :: l, R, hR, hn, hf, ho => by
  unfold OnceN at ho
  rw [List.flatMap_cons, List.map_append, List.nodup_append] at ho
  obtain ⟨h1, h2, h3⟩ := ho
  refine ⟨⟨h1, fun x hx => ?_⟩, ?_⟩
  ·obtain ⟨v, hv, rfl⟩ := List.mem_map.1 hx
   exact hf b (List.mem_cons_self ..) v hv
  ·refine onceN_once (by rw [addAll_length]; exact hR) (fun c hc => hn c (List.mem_cons_of_mem _ hc)) (fun c hc v hv => ?_) h2
   cases hg : (addAll R b.values).getD v.num false with
   | false => rfl
   | true =>
    rcases (addAll_get b.values R v.num (fun u hu => by rw [hR]; exact hn b (List.mem_cons_self ..) u hu)).1 hg with h | h
    ·rw [hf c (List.mem_cons_of_mem _ hc) v hv] at h; cases h
    ·exact absurd rfl (h3 v.num h v.num (List.mem_map_of_mem (List.mem_flatMap.2 ⟨c, hc, hv⟩)))
theorem Fine.once' {bks : List Blk} (h : Fine bks) : Once noNumber bks :=
 onceN_once rfl (fun b hb v hv => (h.good.vals b hb v hv).1) (fun b hb v hv => by
  have : ∀ x, (noNumber).getD x false = false := fun x => by
   unfold noNumber
   rw [List.getD_eq_getElem?_getD, List.getElem?_replicate]
   split <;> rfl
  exact this _) h.once
def PF (l : List Val) : Prop := l.Pairwise fun a b => b.thing.isPhi = true -> a.thing.isPhi = true
theorem phisFirst_iff : ∀ (l : List Val) (c : Bool), PhisFirst c l ↔ PF l /\ (c = false -> ∀ v ∈ l, v.thing.isPhi = false)
 | [], c => by simp [PhisFirst, PF]
 | v :: l, c => by
  simp only [PhisFirst]
  rw [phisFirst_iff l]
  unfold PF
  rw [List.pairwise_cons]
  constructor
  ·rintro ⟨h1, h2, h3⟩
   refine ⟨⟨fun u hu hp => ?_, h2⟩, fun hc u hu => ?_⟩
   ·cases hv : v.thing.isPhi with
    | true => rfl
    | false => rw [h3 hv u hu] at hp; cases hp
   ·have hvf : v.thing.isPhi = false := by
     cases hv : v.thing.isPhi with
     | false => rfl
     | true => rw [h1 hv] at hc; cases hc
    rcases List.mem_cons.1 hu with hu | hu
    ·rw [hu]; exact hvf
    ·exact h3 hvf u hu
  ·rintro ⟨⟨h1, h2⟩, h3⟩
   refine ⟨fun hv => ?_, h2, fun hv u hu => ?_⟩
   ·cases c with
    | true => rfl
    | false => rw [h3 rfl v (List.mem_cons_self ..)] at hv; cases hv
   ·cases hu' : u.thing.isPhi with
    | false => rfl
    | true => rw [h1 u hu hu'] at hv; cases hv
structure Form (args : Nat) (bks : List Blk) : Prop where
 arg : ∀ b ∈ bks, ∀ v ∈ b.values, ∀ k, v.thing = .arg k -> k < args
 phis : ∀ b ∈ bks, PF b.values
theorem Form.sub {args : Nat} {a b : List Blk} (h : Form args b) (hs : SubB a b) : Form args a := by
 refine ⟨fun x hx v hv k hk => ?_, fun x hx => ?_⟩
 ·obtain ⟨y, hy, _, h2⟩ := hs.mem x hx
  exact h.arg y hy v (h2.subset hv) k hk
 ·obtain ⟨y, hy, _, h2⟩ := hs.mem x hx
  exact List.Pairwise.sublist h2 (h.phis y hy)
theorem Form.ren {args a b : Nat} {bks : List Blk} (h : Form args bks) : Form args (renB a b bks) := by
 unfold renB
 have hphi : ∀ t : Thing, (renT a b t).isPhi = t.isPhi := fun t => by cases t <;> rfl
 refine ⟨fun x hx v hv k hk => ?_, fun x hx => ?_⟩
 ·obtain ⟨y, hy, rfl⟩ := List.mem_map.1 hx
  obtain ⟨u, hu, rfl⟩ := List.mem_map.1 hv
  refine h.arg y hy u hu k ?_
  simp only at hk
  cases ht : u.thing with
  | arg n => rw [ht] at hk; exact hk
  | phi of => rw [ht] at hk; cases hk
  | const c => rw [ht] at hk; cases hk
  | apply o of => rw [ht] at hk; cases hk
 ·obtain ⟨y, hy, rfl⟩ := List.mem_map.1 hx
  have := h.phis y hy
  unfold PF at this ⊢
  simp only
  rw [List.pairwise_map]
  refine this.imp fun hab => ?_
  simp only [hphi]
  exact hab
theorem Form.put {args : Nat} {bks : List Blk} (h : Form args bks) {i k : Nat} {b : Blk} {v : Val} (hb : bks[i]? = some b) (hv : b.values[k]? = some v) (hvp : v.thing.isPhi = false) {l : List Val} (hl : ∀ u ∈ l, u.thing.isPhi = false /\ ∀ n, u.thing ≠ .arg n) : Form args (putB i k l bks) := by
 have hbm := List.mem_of_getElem? hb
 obtain ⟨hk, hve⟩ := List.getElem?_eq_some_iff.1 hv
 have hm : ∀ x ∈ putB i k l bks, x ∈ bks \/ x = ⟨b.values.take k ++ l ++ b.values.drop (k + 1), b.last⟩ := by
  intro x hx
  obtain ⟨j, hj, rfl⟩ := List.getElem_of_mem hx
  have h1 := putB_get (k := k) (l := l) hb j
  rw [List.getElem?_eq_getElem hj] at h1
  split at h1
  ·simp only [Option.some.injEq] at h1
   exact Or.inr h1
  ·exact Or.inl (List.mem_of_getElem? h1.symm)
 refine ⟨fun x hx u hu n hn => ?_, fun x hx => ?_⟩
 ·rcases hm x hx with hx | rfl
  ·exact h.arg x hx u hu n hn
  ·simp only [List.append_assoc, List.mem_append] at hu
   rcases hu with hu | hu | hu
   ·exact h.arg b hbm u (List.mem_of_mem_take hu) n hn
   ·exact absurd hn ((hl u hu).2 n)
   ·exact h.arg b hbm u (List.mem_of_mem_drop hu) n hn
 ·rcases hm x hx with hx | rfl
  ·exact h.phis x hx
  ·have hp := h.phis b hbm
   unfold PF at hp ⊢
   have e : b.values = b.values.take k ++ v :: b.values.drop (k + 1) := by rw [<- hve, <- List.drop_eq_getElem_cons hk, List.take_append_drop]
   rw [e, List.pairwise_append, List.pairwise_cons] at hp
   obtain ⟨p1, ⟨p2, p3⟩, p4⟩ := hp
   simp only
   rw [List.append_assoc, List.pairwise_append, List.pairwise_append]
   refine ⟨p1, ⟨?_, p3, fun a ha c hc hcp => ?_⟩, fun a ha c hc hcp => ?_⟩
   ·refine List.Pairwise.imp_of_mem (R := fun _ _ => True) (fun _ hb' _ hcp => ?_) (List.pairwise_of_forall fun _ _ => trivial)
    rw [(hl _ hb').1] at hcp; cases hcp
   ·have := p2 c hc hcp
    rw [hvp] at this; cases this
   ·rcases List.mem_append.1 hc with hc | hc
    ·rw [(hl c hc).1] at hcp; cases hcp
    ·exact p4 a ha c (List.mem_cons_of_mem _ hc) hcp
theorem edgesGo_same (to : Int) : ∀ (f g : List Blk) (k : Nat), f.length = g.length -> (∀ (j : Nat) (a b : Blk), f[j]? = some a -> g[j]? = some b -> tg b.last = tg a.last) -> D.Ref.edgesGo to (f.map toB) k = D.Ref.edgesGo to (g.map toB) k
 | [], [], _, _, _ => rfl
 | a :: f, b :: g, k, hl, h => by
  simp only [List.map_cons, D.Ref.edgesGo]
  rw [edgesGo_same to f g (k + 1) (by simpa using hl) (fun j a' b' h1 h2 => h (j + 1) a' b' (by simpa using h1) (by simpa using h2)), toB_to, toB_to, h 0 a b rfl rfl]
theorem waysIn_same {args : Nat} {f g : List Blk} (h : SameWays f g) (i : Nat) : waysIn ⟨args, g⟩ i = waysIn ⟨args, f⟩ i := by
 unfold waysIn D.Ref.edges toF
 simp only
 rw [edgesGo_same (i : Int) f g 0 h.len.symm (fun j a b h1 h2 => by
  obtain ⟨hj, rfl⟩ := List.getElem?_eq_some_iff.1 h1
  obtain ⟨hj', rfl⟩ := List.getElem?_eq_some_iff.1 h2
  exact h.tg j hj hj')]
theorem WFF.form {f : Fn} (h : WFF f) : Form f.args f.blocks := by
 refine ⟨fun b hb v hv k hk => ?_, fun b hb => ((phisFirst_iff b.values true).1 (h.blocks b hb).phis).1⟩
 have := ((h.blocks b hb).vals v hv).2
 rw [hk] at this
 exact this
theorem fine_small {bks : List Blk} (h : NiceB bks) : Small bks := by
 intro b hb
 refine ⟨Nat.le_trans (h.short b hb) (by omega), fun v hv => ?_, ?_, fun x hx => ?_⟩
 ·obtain ⟨h1, h2⟩ := h.vals b hb v hv
  refine ⟨h1, ?_⟩
  cases ht : v.thing with
  | phi of => simp [useT]
  | arg k => simp [useT]
  | const c => simp [useT]
  | apply k of =>
   rw [ht] at h2
   have := opOf_range k h2.1
   have := h2.2.1
   exact ⟨by show of.length <= 100000; omega, h2.2.2⟩
 ·cases b.last <;> simp [useL]
 ·have h1 := h.lasts b hb
  cases hl : b.last with
  | ret v => rw [hl] at h1 hx; simp only [useL, List.mem_cons, List.not_mem_nil, or_false] at hx; subst hx; exact h1
  | jump t => rw [hl] at hx; simp [useL] at hx
  | ifs v p q => rw [hl] at h1 hx; simp only [useL, List.mem_cons, List.not_mem_nil, or_false] at hx; subst hx; exact h1.1
theorem fine_wff {args : Nat} {bks : List Blk} (ha : args < 5) (hne : bks ≠ []) (hf : Fine bks) (hm : Form args bks) : WFF ⟨args, bks⟩ := by
 refine ⟨ha, hne, hf.good.few, fun b hb => ⟨fun v hv => ?_, (phisFirst_iff b.values true).2 ⟨hm.phis b hb, fun h => by cases h⟩, ?_⟩⟩
 ·obtain ⟨h1, h2⟩ := hf.good.vals b hb v hv
  refine ⟨h1, ?_⟩
  cases ht : v.thing with
  | phi of => rw [ht] at h2; exact h2.2
  | arg k => exact hm.arg b hb v hv k ht
  | const c => rw [ht] at h2; exact h2
  | apply k of => rw [ht] at h2; exact h2
 ·have h1 := hf.good.lasts b hb
  cases hl : b.last with
  | ret v => rw [hl] at h1; exact h1
  | jump t =>
   rw [hl] at h1
   have h2 : t < 1000 := h1
   show t < 10 ^ 10
   omega
  | ifs v p q =>
   rw [hl] at h1
   obtain ⟨h2, h3, h4⟩ := h1
   refine ⟨h2, ?_, ?_⟩ <;> omega
theorem right_made {args : Nat} {bks : List Blk} (hw : WFF ⟨args, bks⟩) (hf : Fine bks) (hg : ∀ b ∈ bks, ∀ t ∈ tg b.last, 1 <= t /\ t < bks.length) (hr : ∀ j, j < bks.length -> Rch bks j) (hu : UsesQ (waysIn ⟨args, bks⟩) bks) : Right bks := by
 have hpos : 0 < bks.length := List.length_pos_iff.2 hw.some
 have hclip := clip_eq (g := ⟨args, bks⟩) hw.most hg
 have hW : Wf (clip ⟨args, bks⟩).blocks := by
  rw [hclip]
  refine ⟨hw.most, hpos, fine_small hf.good, fun b hb v hv of ht x hx => ?_⟩
  have := (hf.good.vals b hb v hv).2
  rw [ht] at this
  exact this.2 x hx
 have h := (right_iff ⟨args, bks⟩ hw hW).2 ⟨hf.once', hg, fun i hi => (reach_iff _ i).2 (hr i hi), (uses_usesQ ⟨args, bks⟩ hw hf.once').2 hu⟩
 rw [hclip] at h
 exact h
theorem right_uses {args : Nat} {bks : List Blk} (hw : WFF ⟨args, bks⟩) (hr : Right bks) : UsesQ (waysIn ⟨args, bks⟩) bks /\ ∀ j, j < bks.length -> Rch bks j := by
 have hf := right_fine (f := ⟨args, bks⟩) hw hr
 have hpos : 0 < bks.length := hr.some
 have hclip := clip_eq (g := ⟨args, bks⟩) hw.most hr.goes
 have hW : Wf (clip ⟨args, bks⟩).blocks := by
  rw [hclip]
  refine ⟨hw.most, hpos, hr.small, fun b hb v hv of ht x hx => ?_⟩
  have := (hf.good.vals b hb v hv).2
  rw [ht] at this
  exact this.2 x hx
 have h := (right_iff ⟨args, bks⟩ hw hW).1 (by rw [hclip]; exact hr)
 exact ⟨(uses_usesQ ⟨args, bks⟩ hw hr.once).1 h.uses, fun j hj => (reach_iff _ j).1 (h.reached j hj)⟩
theorem goes_same {f g : List Blk} (h : SameWays f g) (hg : ∀ b ∈ f, ∀ t ∈ tg b.last, 1 <= t /\ t < f.length) : ∀ b ∈ g, ∀ t ∈ tg b.last, 1 <= t /\ t < g.length := by
 intro b hb t ht
 obtain ⟨j, hj, rfl⟩ := List.getElem_of_mem hb
 have hj' : j < f.length := by rw [<- h.len]; exact hj
 rw [h.tg j hj' hj] at ht
 rw [h.len]
 exact hg _ (List.getElem_mem hj') t ht
theorem stepI_ways {f : List Blk} {p : Pair} {b : Blk} {v : Val} {kn : Known} (hb : f[p.block]? = some b) : SameWays f (stepI f p v.num kn) := by
 unfold stepI
 split
 ·exact (putB_ways hb).trans (renB_ways _ _ _)
 ·exact putB_ways hb
theorem stepI_form {args : Nat} {f : List Blk} (hm : Form args f) {p : Pair} {b : Blk} {v : Val} {kn : Known} (hb : f[p.block]? = some b) (hv : b.values[p.index]? = some v) (hvp : v.thing.isPhi = false) (hfine : Fine f) (hR : p.rule.result.fine) (hk : ∀ w, knownV kn w < 60) : Form args (stepI f p v.num kn) := by
 unfold stepI
 split
 ·exact (hm.put hb hv hvp (by simp)).ren
 ·rename_i hw
  obtain ⟨i1, _, i3⟩ := mkThing_inv (things_thOk hfine) kn p.rule.result hw ⟨[], 0⟩ hR (fun q _ => hk q.1) (MkInv.nil _)
  have hmt : ∀ {n : Nat} {t : Thing}, MadeT n t -> t.isPhi = false /\ ∀ k, t ≠ .arg k := by
   intro n t ht
   cases t with
   | phi of => exact ht.elim
   | arg k => exact ht.elim
   | const c => exact ⟨rfl, fun k h => by cases h⟩
   | apply o of => exact ⟨rfl, fun k h => by cases h⟩
  refine hm.put hb hv hvp (fun u hu => ?_)
  rcases List.mem_append.1 hu with hu | hu
  ·exact hmt (i1.made u hu)
  ·simp only [List.mem_cons, List.not_mem_nil, or_false] at hu
   subst hu
   exact hmt i3
theorem stepR_right {args : Nat} {rules : List CRule} {bks n : List Blk} {p : Pair} (hw : WFF ⟨args, bks⟩) (hr : Right bks) (hR : ∀ R ∈ rules, RuleOk R) (hp : p ∈ pairs rules bks) (hs : stepR args bks p = some n) : WFF ⟨args, n⟩ /\ Right n := by
 have hfine := right_fine (f := ⟨args, bks⟩) hw hr
 obtain ⟨hu, hrch⟩ := right_uses hw hr
 obtain ⟨hmr, b, v, kn, hb, hv, hkn⟩ := mem_pairs hp
 have hRk := hR _ hmr
 have hfn := stepR_fine hfine hRk hs
 have hs' := hs
 unfold stepR at hs'
 rw [hb, Option.bind_some, hv, Option.bind_some, hkn, Option.bind_some, Option.filter_eq_some_iff] at hs'
 obtain ⟨hst, _⟩ := hs'
 have hnr : ¬ noRoom bks p kn := fun h => by rw [stepB1_room h] at hst; cases hst
 rw [stepB1_is hnr, Option.some.injEq] at hst
 have hv60 : v.num < 60 := (hfine.good.vals b (List.mem_of_getElem? hb) v (List.mem_of_getElem? hv)).1
 have hk : ∀ w, knownV kn w < 60 := by
  intro w
  have h := hkn
  rw [hRk.fits, Option.map_eq_some_iff] at h
  obtain ⟨of, hof, rfl⟩ := h
  exact knownV_lt (cfits_lt (things_thOk hfine) _ _ _ _ _ hv60 (by simp) hof) w
 have hvp : v.thing.isPhi = false := by
  obtain ⟨o, kids, hnode, _⟩ := hRk.node
  have h := hkn
  rw [hnode] at h
  obtain ⟨of, hof⟩ := fits_op h
  rw [things_at hfine.once (List.mem_of_getElem? hb) (List.mem_of_getElem? hv), Option.some.injEq] at hof
  rw [hof]; rfl
 have hways : SameWays bks n := by
  rw [<- hst]
  exact (stepI_ways hb).trans (sweep_ways _)
 have hform : Form args n := by
  rw [<- hst]
  exact (stepI_form (WFF.form hw) hb hv hvp hfine hRk.fineR hk).sub (SubB.sweep _)
 have hne : n ≠ [] := by
  intro h
  have := hways.len
  rw [h] at this
  exact hw.some (List.eq_nil_of_length_eq_zero this.symm)
 have hw' : WFF ⟨args, n⟩ := fine_wff hw.args hne hfn hform
 refine ⟨hw', right_made hw' hfn (goes_same hways hr.goes) (fun j hj => hways.rch (hrch j (by rw [<- hways.len]; exact hj))) ?_⟩
 have hE : waysIn ⟨args, n⟩ = waysIn ⟨args, bks⟩ := funext fun i => waysIn_same hways i
 rw [hE, <- hst]
 exact (stepI_uses hu hfine.once hrch hRk hb hv hkn).sweep
end Go.Proofs.YtedkjanogjglkaaGreatDoor.Code
namespace Go.Proofs.YtedkjanogjglkaaGreatDoor
open Go.RowKit
open Go.Proofs.YtedkjanogjglkaaGreatDoor.Code (RTree Nm RSt Prs CRule Pair)
theorem lineS_why {s : List UInt8} {e : Int} (h : Code.lineS s = .error e) : e = 6 \/ e = 7 \/ e = 8 := by
 rw [Code.lineS_nodeW] at h
 cases hr : Code.ruleS s with
 | none => rw [hr] at h; simp only [Except.error.injEq] at h; omega
 | some q =>
  rcases q with ⟨n, r, st⟩
  rw [hr] at h
  simp only at h
  split at h
  ·simp only [Except.error.injEq] at h; omega
  ·split at h
   ·simp only [Except.error.injEq] at h; omega
   ·cases h
theorem rulesS_why {n : Nat} {s : List UInt8} {o : Except (Nat × Int) (List CRule)} (h : Code.RulesS n s o) : ∀ k e, o = .error (k, e) -> e = 6 \/ e = 7 \/ e = 8 := by
 induction h with
 | done => intro k e h; cases h
 | open_ _ _ => intro k e h; simp only [Except.error.injEq, Prod.mk.injEq] at h; omega
 | idle _ _ _ ih => exact ih
 | bad _ _ h3 => intro k e h; simp only [Except.error.injEq, Prod.mk.injEq] at h; obtain ⟨_, rfl⟩ := h; exact lineS_why h3
 | more _ _ _ _ ih =>
  rename_i o' _ _ _ _
  intro k e h
  cases ho : o' with
  | error x => rw [ho] at h; simp only [Except.map, Except.error.injEq] at h; exact ih k e (by rw [ho, h])
  | ok l => rw [ho] at h; cases h
theorem rulesAre_why {s : List UInt8} {n : Nat} {e : Int} (h : RulesAre s (.error (n, e))) : e = 6 \/ e = 7 \/ e = 8 := by
 rcases h with ⟨_, h⟩ | ⟨_, h⟩
 ·simp only [Except.error.injEq, Prod.mk.injEq] at h; omega
 ·exact rulesS_why h _ _ rfl
theorem rulesAre_all (s : List UInt8) : ∃ o, RulesAre s o := by
 by_cases h : 3000 < s.length
 ·exact ⟨_, Or.inl ⟨h, rfl⟩⟩
 ·obtain ⟨o, ho⟩ := Code.rulesS_all s.length s 1 (Nat.le_refl _)
  exact ⟨o, Or.inr ⟨by omega, ho⟩⟩
theorem rulesAre_in {s : List UInt8} {l : List CRule} (h : RulesAre s (.ok l)) : (∀ R ∈ l, RuleIn R) /\ l.length <= 3000 := by
 rcases h with ⟨_, h⟩ | ⟨h1, h⟩
 ·cases h
 ·obtain ⟨a, b⟩ := rulesS_in h l rfl
  exact ⟨a, by omega⟩
inductive RwOut (rs ts : List UInt8) (picks : List Int) : List UInt8 -> Nat -> Int -> Prop
 | rules {n : Nat} {why : Int} : RulesAre rs (.error (n, why)) -> RwOut rs ts picks [] 0 why
 | text {l : List CRule} {er : Int} : RulesAre rs (.ok l) -> Code.ErrOf ts er -> RwOut rs ts picks [] 0 er
 | made {l : List CRule} {f : Code.Fn} {out : List Code.Blk} {m : Nat} {er : Int} : RulesAre rs (.ok l) -> ts.length <= 1500 -> Code.FnIs ts f -> Code.Right f.blocks -> Code.RewS f.args l picks 0 f.blocks out m er -> RwOut rs ts picks (Code.wrF f.args out) m er
theorem errOf_not0 {s : List UInt8} {er : Int} (h : Code.ErrOf s er) : er = 1 \/ er = 2 := by
 cases h with
 | text _ => exact Or.inl rfl
 | form _ _ _ => exact Or.inr rfl
theorem chiselRewrite_any (rs ts : List UInt8) (picks : List Int) (pv : Value) (w : World) (hp : PicksAt w pv picks) (hin : ∀ p ∈ picks, -9223372036854775808 <= p /\ p <= 9223372036854775807) (hi : TabI w) (ht : Tab w) (hw : 0 < w.heap.size) :
  Calls Tryz.prog 16 #[.string (bs rs), .string (bs ts), pv] w fun e w' => (∃ o m er, RwOut rs ts picks o m er /\ e = .returned (.tuple #[.string (bs o), .int .i64 (m : Nat), .int .i64 er])) /\ Below w.heap.size w w' := by
 obtain ⟨ro, hro⟩ := rulesAre_all rs
 have HFR := hide (faceR_any rs ro hro w ht hw)
 have HRO := hide hro
 have HI := hide hi
 have HT := hide ht
 have HP := hide hp
 have HIN := hide hin
 obtain ⟨pp, pc, rfl, _⟩ := hp
 clear hro hi ht hin
 go_enter Tryz.func16, Tryz.ntmps16
 go_wp2_with fail
 refine HFR.out.mono ?_
 rintro e w1 ⟨⟨l, v, hor, rfl, hrep⟩ | ⟨n, why, hor, rfl⟩, hb1⟩
 ·have HRE : Hid (RulesAre rs (.ok l)) := hide (by rw [<- hor]; exact HRO.out)
  obtain ⟨hRin, hRl⟩ := rulesAre_in HRE.out
  have HRIN := hide hRin
  have HREP : Hid (RepRules w1 0 v l) := hide (hrep.mono (fun _ _ _ h => own_base h (Nat.zero_le _)) (fun b C T z h _ _ => h) (Nat.zero_le _))
  obtain ⟨cs, hcs, _⟩ := hrep
  obtain ⟨vp, vc, rfl⟩ := own_slice hcs
  clear hcs hor HFR hRin
  go_wp2_with fail
  have hx2 := heap_alloc_new w1 (.cells #[.int .i64 0, .int .i64 0] 61)
  have hb12 := below_al (Below.refl w1.heap.size w1) (.cells #[.int .i64 0, .int .i64 0] 61)
  have hb2 := hb1.trans (hb12.mono hb1.size)
  have HREP2 := hide (HREP.out.below hb12)
  generalize w1.alloc (.cells #[.int .i64 0, .int .i64 0] 61) = w2 at *
  have hgf := hb1.size
  generalize w1.heap.size = gf at *
  refine (faceF_any ts w2 (HT.out.below hb2)).mono ?_
  rintro e w3 ⟨⟨f, p, c, hlen, hf, hr, rfl, hrepf⟩ | ⟨er, ln, her, rfl⟩, hb3⟩
  ·have hx3 := (hb3.block _ (lt_of_block hx2)).trans hx2
   have hbw3 := hb2.trans (hb3.mono hb2.size)
   have HREP3 := hide (HREP2.out.below hb3)
   have HRF := hide hrepf
   have q0 := blk_cell hx3 0 _ rfl
   have q1 := blk_cell hx3 1 _ rfl
   have z0 := blk_froz hx3 0
   have z1 := blk_froz hx3 1
   have hl3 := lt_of_block hx3
   have hwff := Code.wff_of hf hlen hr
   have hfine := Code.right_fine hwff hr
   have hargs : f.args < 1000 := by have := hwff.args; omega
   obtain ⟨out, m, er, hrew, hmm, hfo⟩ := Code.rewS_exists f.args l picks (fun R hR => (HRIN.out R hR).ok) 160000 f.blocks 0 hfine.good.sum hfine
   have HOUT : Hid (RwOut rs ts picks (Code.wrF f.args out) m er) := hide (.made HRE.out hlen hf hr hrew)
   have HRW : Hid (∀ w4, Below w.heap.size w w4 -> RepRules w4 0 (.slice vp l.length vc) l -> RepBlks w4 0 (.slice p f.blocks.length c) f.blocks -> Calls Tryz.prog 38 #[.slice vp l.length vc, .agg #[.int .i64 (f.args : Nat), .slice p f.blocks.length c], .slice pp picks.length pc] w4 fun e w' => ∃ p' c', e = .returned (.tuple #[.agg #[.int .i64 (f.args : Nat), .slice p' out.length c'], .int .i64 (m : Nat), .int .i64 er]) /\ RepBlks w' 0 (.slice p' out.length c') out /\ Below w4.heap.size w4 w') := hide fun w4 h4 h5 h6 => rewrite_any f.args l picks f.blocks out m er _ _ p c w4 h5 hRl HRIN.out (HP.out.below h4) HIN.out h6 hfine hargs (HI.out.below h4) (HT.out.below h4) hrew (by omega)
   have HTX : Hid (∀ w4 p' c', Below w.heap.size w w4 -> RepBlks w4 0 (.slice p' out.length c') out -> Calls Tryz.prog 39 #[.agg #[.int .i64 (f.args : Nat), .slice p' out.length c']] w4 fun e w' => e = .returned (.string (bs (Code.wrF f.args out))) /\ Below w4.heap.size w4 w') := hide fun w4 p' c' h4 h5 => text_any f.args out p' c' w4 h5 hfo.good hargs (HI.out.below h4) (HT.out.below h4)
   generalize Code.wrF f.args out = TO at *
   clear hf hr hrew hfo hfine hwff hrepf HREP HREP2 hx2 hb2 hb3 hb12 hb1 hmm hargs
   go_wp2_with fail
   have hbw4 : Below w.heap.size w (((w3.setCell ⟨gf, 0, none⟩ (.int .i64 0)).setCell ⟨gf, 1, none⟩ (.int .i64 0)).alloc (.cells #[.int .i64 (f.args : Nat), .slice p f.blocks.length c] 78)) := below_al (below_set (below_set hbw3 hgf _ _) hgf _ _) _
   have hal := below_al (Below.refl _ ((w3.setCell ⟨gf, 0, none⟩ (.int .i64 0)).setCell ⟨gf, 1, none⟩ (.int .i64 0))) (.cells #[.int .i64 (f.args : Nat), .slice p f.blocks.length c] 78)
   have HREP4 := hide (((HREP3.out.setF (o := 0) (u := .int .i64 0) hx3).setF (o := 1) (u := .int .i64 0) (set_block hx3)).below hal)
   have HRF4 := hide (((HRF.out.set (o := 0) (u := .int .i64 0) hx3 (by decide) (by decide) (by decide)).set (o := 1) (u := .int .i64 0) (set_block hx3) (by decide) (by decide) (by decide)).below hal)
   generalize ((w3.setCell ⟨gf, 0, none⟩ (.int .i64 0)).setCell ⟨gf, 1, none⟩ (.int .i64 0)).alloc (.cells #[.int .i64 (f.args : Nat), .slice p f.blocks.length c] 78) = w4 at *
   clear q0 q1 z0 z1 hl3 hx3 hbw3 HREP3 HRF hal
   refine (HRW.out w4 hbw4 HREP4.out HRF4.out).mono ?_
   rintro e w5 ⟨p', c', rfl, hrep5, hb5⟩
   have hbw5 := hbw4.trans (hb5.mono hbw4.size)
   have HR5 := hide hrep5
   clear hrep5
   go_wp2_with fail
   have hal := below_al (Below.refl w5.heap.size w5) (.cells #[.int .i64 (f.args : Nat), .slice p' out.length c'] 78)
   refine (HTX.out _ p' c' (hbw5.trans (hal.mono hbw5.size)) (HR5.out.below hal)).mono ?_
   rintro e w6 ⟨rfl, hb6⟩
   have hbw6 : Below w.heap.size w w6 := (hbw5.trans (hal.mono hbw5.size)).trans (hb6.mono (hbw5.trans (hal.mono hbw5.size)).size)
   go_wp2
   refine bodyPost_ret (v := .tuple #[.string (bs TO), .int .i64 (m : Nat), .int .i64 er]) (by simp [results, Tryz.results16]) rfl ?_
   exact ⟨⟨TO, m, er, HOUT.out, rfl⟩, hbw6⟩
  ·have hx3 := (hb3.block _ (lt_of_block hx2)).trans hx2
   have hbw3 := hb2.trans (hb3.mono hb2.size)
   have HER := hide her
   have her' := errOf_not0 her
   have hw0 : ¬ er = 0 := by omega
   have hw0' : (er == 0) = false := beq_eq_false_iff_ne.2 hw0
   have q0 := blk_cell hx3 0 _ rfl
   have q1 := blk_cell hx3 1 _ rfl
   have z0 := blk_froz hx3 0
   have z1 := blk_froz hx3 1
   have hl3 := lt_of_block hx3
   clear her her' HREP HREP2 hx2 hb2 hb3 hb12 hb1
   go_wp2_with fail
   have hx4 := stay_alloc (p := .cells #[.int .i64 0, .slice none 0 0] 78) (set_block (o := 1) (v := .int .i64 ln) (set_block (o := 0) (v := .int .i64 er) hx3))
   have hbw4 : Below w.heap.size w (((w3.setCell ⟨gf, 0, none⟩ (.int .i64 er)).setCell ⟨gf, 1, none⟩ (.int .i64 ln)).alloc (.cells #[.int .i64 0, .slice none 0 0] 78)) := below_al (below_set (below_set hbw3 hgf _ _) hgf _ _) _
   generalize ((w3.setCell ⟨gf, 0, none⟩ (.int .i64 er)).setCell ⟨gf, 1, none⟩ (.int .i64 ln)).alloc (.cells #[.int .i64 0, .slice none 0 0] 78) = w4 at *
   have hx5 : w4.heap[gf]? = some (.cells #[.int .i64 er, .int .i64 ln] 61) := hx4
   have hS : w4.drew.heap[gf]? = some (.cells #[.int .i64 er, .int .i64 ln] 61) := hx5
   refine wp_region_held_drew (S := fun w' => w'.heap[gf]? = some (.cells #[.int .i64 er, .int .i64 ln] 61)) (by kernel_rfl) hx5 (fun hHeld => ?_)
   refine wpAnyH_take (i := 0) (v := .pointer (some ⟨gf, 0, none⟩)) rfl (by kernel_rfl) (by kernel_rfl) (by kernel_rfl) (fun _ _ _ h => h) (Or.inl ⟨by rfl, fun w' h => by  go_simp⟩) hS ?_
   try simp only [Act.put, zz]
   refine wpAnyH_take (i := 1) (v := .int .i64 er) rfl (by kernel_rfl) (by kernel_rfl) (by kernel_rfl) (fun _ _ _ h => h) (Or.inl ⟨by rfl, fun w' h => by have r0 := blk_cell h 0 _ rfl; go_simp⟩) hS ?_
   try simp only [Act.put, zz]
   refine wpAnyH_take (i := 2) (v := .string { data := #[] }) rfl (by kernel_rfl) (by kernel_rfl) (by kernel_rfl) (fun _ _ _ h => h) (Or.inl ⟨by rfl, fun w' h => by  go_simp⟩) hS ?_
   try simp only [Act.put, zz]
   refine wpAnyH_take (i := 3) (v := .int .i64 0) rfl (by kernel_rfl) (by kernel_rfl) (by kernel_rfl) (fun _ _ _ h => h) (Or.inl ⟨by rfl, fun w' h => by  go_simp⟩) hS ?_
   try simp only [Act.put, zz]
   refine wpAnyH_take (i := 4) (v := .int .i64 er) rfl (by kernel_rfl) (by kernel_rfl) (by kernel_rfl) (fun _ _ _ h => h) (Or.inl ⟨by rfl, fun w' h => by  go_simp⟩) hS ?_
   try simp only [Act.put, zz]
   refine wpAnyH_done (by kernel_rfl) ?_ _
   go_wp2
   refine bodyPost_ret (v := .tuple #[.string (bs []), .int .i64 0, .int .i64 er]) (by simp [results, Tryz.results16]; rfl) rfl ?_
   exact ⟨⟨[], 0, er, .text HRE.out HER.out, rfl⟩, hbw4.drew⟩
 ·have HRE : Hid (RulesAre rs (.error (n, why))) := hide (by rw [<- hor]; exact HRO.out)
  have hwhy := rulesAre_why HRE.out
  have hw0 : ¬ why = 0 := by omega
  have hw0' : (why == 0) = false := beq_eq_false_iff_ne.2 hw0
  clear hor HFR
  go_wp2_with fail
  have hx2 := heap_alloc_new w1 (.cells #[.int .i64 why, .int .i64 (n : Nat)] 61)
  have hb2 : Below w.heap.size w (w1.alloc (.cells #[.int .i64 why, .int .i64 (n : Nat)] 61)) := below_al hb1 _
  generalize w1.alloc (.cells #[.int .i64 why, .int .i64 (n : Nat)] 61) = w2 at *
  generalize w1.heap.size = gf at *
  have hS : w2.drew.heap[gf]? = some (.cells #[.int .i64 why, .int .i64 (n : Nat)] 61) := hx2
  refine wp_region_held_drew (S := fun w' => w'.heap[gf]? = some (.cells #[.int .i64 why, .int .i64 (n : Nat)] 61)) (by kernel_rfl) hx2 (fun hHeld => ?_)
  refine wpAnyH_take (i := 0) (v := .pointer (some ⟨gf, 0, none⟩)) rfl (by kernel_rfl) (by kernel_rfl) (by kernel_rfl) (fun _ _ _ h => h) (Or.inl ⟨by rfl, fun w' h => by  go_simp⟩) hS ?_
  try simp only [Act.put, zz]
  refine wpAnyH_take (i := 1) (v := .int .i64 why) rfl (by kernel_rfl) (by kernel_rfl) (by kernel_rfl) (fun _ _ _ h => h) (Or.inl ⟨by rfl, fun w' h => by have r0 := blk_cell h 0 _ rfl; go_simp⟩) hS ?_
  try simp only [Act.put, zz]
  refine wpAnyH_take (i := 2) (v := .string { data := #[] }) rfl (by kernel_rfl) (by kernel_rfl) (by kernel_rfl) (fun _ _ _ h => h) (Or.inl ⟨by rfl, fun w' h => by  go_simp⟩) hS ?_
  try simp only [Act.put, zz]
  refine wpAnyH_take (i := 3) (v := .int .i64 0) rfl (by kernel_rfl) (by kernel_rfl) (by kernel_rfl) (fun _ _ _ h => h) (Or.inl ⟨by rfl, fun w' h => by  go_simp⟩) hS ?_
  try simp only [Act.put, zz]
  refine wpAnyH_take (i := 4) (v := .int .i64 why) rfl (by kernel_rfl) (by kernel_rfl) (by kernel_rfl) (fun _ _ _ h => h) (Or.inl ⟨by rfl, fun w' h => by  go_simp⟩) hS ?_
  try simp only [Act.put, zz]
  refine wpAnyH_done (by kernel_rfl) ?_ _
  go_wp2
  refine bodyPost_ret (v := .tuple #[.string (bs []), .int .i64 0, .int .i64 why]) (by simp [results, Tryz.results16]; rfl) rfl ?_
  exact ⟨⟨[], 0, why, .rules HRE.out, rfl⟩, hb2.drew⟩
namespace Code
open Go.Proofs.YtedkjanogjglkaaGreatDoor.Ref (dec ch digits)
theorem decDigits_dec (n : Nat) : Lib.decDigits n = dec n := by
 induction n using Nat.strongRecOn with
 | _ n ih =>
  rw [Lib.decDigits]
  split
  ·rename_i h
   rw [Ref.dec_small h, Nat.mod_eq_of_lt h]; rfl
  ·rename_i h
   rw [ih (n / 10) (by omega), Ref.dec_big (n := n) (by omega)]; rfl
theorem itoa_dec (n : Nat) : Lib.itoa (n : Int) = dec n := by rw [Lib.itoa_nonneg, decDigits_dec]
theorem itoa_digits (c : Int) : Lib.itoa c = digits c := by
 unfold Lib.itoa digits
 split
 ·rw [decDigits_dec, show c.natAbs = (-c).toNat by omega]
 ·rw [decDigits_dec]
theorem numb_of : ∀ (l : List Nat), numb [32, 118] (ofNats l) = ofText l
 | [] => rfl
 | x :: l => by
  have ih := numb_of l
  unfold numb ofNats at *
  rw [List.map_cons, List.flatMap_cons, ih, Int.ofNat_eq_natCast, itoa_dec]; rfl
theorem numb_one (m : List UInt8) (n : Nat) : numb m [(n : Int)] = m ++ dec n := by
 unfold numb
 rw [List.flatMap_cons, itoa_dec]; simp
theorem wrT_text (t : Thing) : wrT t = textG t := by
 cases t with
 | phi of => rw [wrT, numb_of]; rfl
 | arg k => rw [wrT, numb_one]; rfl
 | const c => simp [wrT, numb, itoa_digits, textG]
 | apply k of => rw [wrT, numb_of]; rfl
theorem wrV_line (v : Val) : wrV v = lineG v := by
 unfold wrV lineG
 rw [numb_one, wrT_text]; simp
theorem wrL_last (z : Last) : wrL z = lastG z := by
 cases z <;> simp [wrL, lastG, numb, itoa_dec]
theorem wrBk_block (i : Nat) (b : Blk) : wrBk i b = blockG i b := by
 unfold wrBk blockG linesG
 rw [numb_one, wrL_last, show wrV = lineG from funext wrV_line]; simp
theorem wrBs_blocks : ∀ (l : List Blk) (i : Nat), wrBs i l = blocksG i l
 | [], _ => rfl
 | b :: l, i => by rw [wrBs, blocksG, wrBk_block, wrBs_blocks l]
theorem wrF_text (args : Nat) (bks : List Blk) : wrF args bks = textF ⟨args, bks⟩ := by
 unfold wrF textF
 rw [numb_one, wrBs_blocks]
 simp [sFunc]
theorem text_back {s : List UInt8} {f : Fn} (h : FnIs s f) (hr : Right f.blocks) : wrF f.args f.blocks = s := by
 obtain ⟨g, rfl, h2, rfl⟩ := fnIs_inv h
 have hc := clip_eq h2.most ((clip_goes h2.most).1 hr.goes)
 rw [wrF_text, hc]
theorem back_text {args : Nat} {out : List Blk} (hw : WFF ⟨args, out⟩) (hr : Right out) : FnIs (wrF args out) ⟨args, out⟩ := by
 have h := textF_is ⟨args, out⟩ hw
 rw [clip_eq (g := ⟨args, out⟩) hw.most hr.goes] at h
 rw [wrF_text]
 exact h
structure Lighter (args : Nat) (rules : List CRule) (k : Nat) (bks out : List Blk) (m : Nat) (e : Int) : Prop where
 wff : WFF ⟨args, out⟩
 right : Right out
 short : (wrF args out).length <= 1500
 more : k <= m
 light : sumB out + (m - k : Nat) <= sumB bks
 ends : e = 0 /\ pairs rules out = [] \/ e = 9
theorem rew_lighter {args : Nat} {rules : List CRule} {picks : List Int} (hR : ∀ R ∈ rules, RuleOk R) {k m : Nat} {bks out : List Blk} {e : Int} (h : RewS args rules picks k bks out m e) : WFF ⟨args, bks⟩ -> Right bks -> (wrF args bks).length <= 1500 -> Lighter args rules k bks out m e := by
 induction h with
 | done hp => exact fun hw hr hs => ⟨hw, hr, hs, Nat.le_refl _, by omega, Or.inl ⟨rfl, hp⟩⟩
 | room _ _ => exact fun hw hr hs => ⟨hw, hr, hs, Nat.le_refl _, by omega, Or.inr rfl⟩
 | @next k bks n out p m e hp hs _ ih =>
  intro hw hr _
  have hm := List.mem_of_getElem? hp
  obtain ⟨hw', hr'⟩ := stepR_right hw hr hR hm hs
  have hl : sumB n < sumB bks := stepR_lighter (right_fine (f := ⟨args, _⟩) hw hr) hR hm hs
  have hs' : (wrF args n).length <= 1500 := by
   unfold stepR at hs
   simp only [Option.bind_eq_some_iff, Option.filter_eq_some_iff, decide_eq_true_eq] at hs
   obtain ⟨_, _, _, _, _, h⟩ := hs
   exact h
  obtain ⟨a, b, c, d, f, g⟩ := ih hw' hr' hs'
  exact ⟨a, b, c, by omega, by omega, g⟩
end Code
namespace Code
def phiF : Nat -> List UInt8 -> Option (List Nat × List UInt8)
 | 0, _ => none
 | n + 1, s => match cut [32] s with
  | none => some ([], s)
  | some r => (value r).bind fun p => (phiF n p.2).map fun q => (p.1 :: q.1, q.2)
theorem phiF_sound : ∀ (n : Nat) (s : List UInt8) (o : List Nat × List UInt8), phiF n s = some o -> PhiOf s (some o)
 | 0, _, _, h => by cases h
 | n + 1, s, o, h => by
  unfold phiF at h
  split at h
  ·rename_i hc
   cases h
   exact PhiOf.done hc
  ·rename_i r hc
   cases hv : value r with
   | none => rw [hv] at h; cases h
   | some p =>
    rw [hv] at h
    simp only [Option.bind_some] at h
    cases hq : phiF n p.2 with
    | none => rw [hq] at h; cases h
    | some q =>
     rw [hq] at h
     cases h
     exact PhiOf.more hc hv (phiF_sound n _ _ hq)
def thingF (n a : Nat) (s : List UInt8) : Option (Thing × List UInt8) :=
 if word s = sPhi then (phiF n (behind s)).map fun p => (.phi p.1, p.2)
 else if word s = sArg then (cut [32] (behind s)).bind fun r => (below a r).map fun p => (.arg p.1, p.2)
 else if word s = sConst then (cut [32] (behind s)).bind fun r => (signed r).map fun p => (.const p.1, p.2)
 else apply (word s) (behind s)
theorem thingF_sound {n a : Nat} {s : List UInt8} {o : Thing × List UInt8} (h : thingF n a s = some o) : ThingOf a s (some o) := by
 unfold thingF at h
 split at h
 ·rename_i h1
  cases hp : phiF n (behind s) with
  | none => rw [hp] at h; cases h
  | some q =>
   rw [hp] at h
   cases h
   exact ThingOf.phi h1 (phiF_sound _ _ _ hp)
 ·rename_i h1
  split at h
  ·rename_i h2
   rw [<- h]
   exact ThingOf.arg h2
  ·rename_i h2
   split at h
   ·rename_i h3
    rw [<- h]
    exact ThingOf.const h3
   ·rename_i h3
    rw [<- h]
    exact ThingOf.apply h1 h2 h3
def valuesF : Nat -> Nat -> Bool -> List UInt8 -> Option (List Val × List UInt8)
 | 0, _, _, _ => none
 | n + 1, a, b, s => match cut [118] s with
  | none => some ([], s)
  | some _ => (value s).bind fun p => (cut [32, 61, 32] p.2).bind fun u => (thingF 60 a u).bind fun y =>
   if y.1.isPhi = true /\ b = false then none else (cut [10] y.2).bind fun z => (valuesF n a y.1.isPhi z).map fun q => (⟨p.1, y.1⟩ :: q.1, q.2)
theorem valuesF_sound : ∀ (n a : Nat) (b : Bool) (s : List UInt8) (o : List Val × List UInt8), valuesF n a b s = some o -> ValuesOf a b s (some o)
 | 0, _, _, _, _, h => by cases h
 | n + 1, a, b, s, o, h => by
  unfold valuesF at h
  split at h
  ·rename_i hc
   cases h
   exact ValuesOf.done hc
  ·rename_i r hc
   cases hv : value s with
   | none => rw [hv] at h; cases h
   | some p =>
    rw [hv] at h
    simp only [Option.bind_some] at h
    cases hu : cut [32, 61, 32] p.2 with
    | none => rw [hu] at h; cases h
    | some u =>
     rw [hu] at h
     simp only [Option.bind_some] at h
     cases hy : thingF 60 a u with
     | none => rw [hy] at h; cases h
     | some y =>
      rw [hy] at h
      simp only [Option.bind_some] at h
      split at h
      ·cases h
      ·rename_i hph
       cases hz : cut [10] y.2 with
       | none => rw [hz] at h; cases h
       | some z =>
        rw [hz] at h
        simp only [Option.bind_some] at h
        cases hq : valuesF n a y.1.isPhi z with
        | none => rw [hq] at h; cases h
        | some q =>
         rw [hq] at h
         cases h
         refine ValuesOf.more hc hv hu (thingF_sound hy) (fun hp => ?_) hz (valuesF_sound n _ _ _ _ hq)
         cases b
         ·exact absurd ⟨hp, rfl⟩ hph
         ·rfl
def blockF (a num : Nat) (s : List UInt8) : Option (Blk × List UInt8) :=
 (cut [98] s).bind fun r1 => (below 8 r1).bind fun p => if p.1 ≠ num then none else (cut [58] p.2).bind fun r3 => (cut [10] r3).bind fun r4 => (valuesF 61 a true r4).bind fun q => (last q.2).bind fun z => (cut [10] z.2).map fun r7 => (⟨q.1, z.1⟩, r7)
theorem blockF_sound {a num : Nat} {s t : List UInt8} {b : Blk} (h : blockF a num s = some (b, t)) : BlockIs a num s b t := by
 unfold blockF at h
 cases h1 : cut [98] s with
 | none => rw [h1] at h; cases h
 | some r1 =>
  rw [h1] at h
  simp only [Option.bind_some] at h
  cases h2 : below 8 r1 with
  | none => rw [h2] at h; cases h
  | some p =>
   rw [h2] at h
   simp only [Option.bind_some] at h
   split at h
   ·cases h
   ·rename_i hn
    have hn' : p.1 = num := Classical.byContradiction hn
    obtain ⟨m, r2⟩ := p
    subst hn'
    cases h3 : cut [58] r2 with
    | none => simp only [h3] at h; cases h
    | some r3 =>
     simp only [h3, Option.bind_some] at h
     cases h4 : cut [10] r3 with
     | none => rw [h4] at h; cases h
     | some r4 =>
      rw [h4] at h
      simp only [Option.bind_some] at h
      cases h5 : valuesF 61 a true r4 with
      | none => rw [h5] at h; cases h
      | some q =>
       rw [h5] at h
       simp only [Option.bind_some] at h
       cases h6 : last q.2 with
       | none => rw [h6] at h; cases h
       | some z =>
        rw [h6] at h
        simp only [Option.bind_some] at h
        cases h7 : cut [10] z.2 with
        | none => rw [h7] at h; cases h
        | some r7 =>
         rw [h7] at h
         cases h
         exact BlockIs.mk h1 h2 h3 h4 (valuesF_sound _ _ _ _ _ h5) h6 h7
def blocksF : Nat -> Nat -> Nat -> List UInt8 -> Option (List Blk)
 | 0, _, _, _ => none
 | n + 1, a, k, s => if s = [] then some [] else (blockF a k s).bind fun p => (blocksF n a (k + 1) p.2).map fun q => p.1 :: q
theorem blocksF_sound : ∀ (n a k : Nat) (s : List UInt8) (o : List Blk), blocksF n a k s = some o -> BlocksIs a k s o
 | 0, _, _, _, _, h => by cases h
 | n + 1, a, k, s, o, h => by
  unfold blocksF at h
  split at h
  ·rename_i hs
   subst hs
   cases h
   exact BlocksIs.nil
  ·rename_i hs
   cases hb : blockF a k s with
   | none => rw [hb] at h; cases h
   | some p =>
    rw [hb] at h
    simp only [Option.bind_some] at h
    cases hq : blocksF n a (k + 1) p.2 with
    | none => rw [hq] at h; cases h
    | some q =>
     rw [hq] at h
     cases h
     exact BlocksIs.cons hs (blockF_sound hb) (blocksF_sound n _ _ _ _ hq)
def fnF (s : List UInt8) : Option Fn :=
 (cut sFunc s).bind fun r1 => (below 5 r1).bind fun p => (cut [10] p.2).bind fun r3 => (blockF p.1 0 r3).bind fun b => (blocksF 9 p.1 1 b.2).map fun q => ⟨p.1, b.1 :: q⟩
theorem fnF_sound {s : List UInt8} {f : Fn} (h : fnF s = some f) : FnIs s f := by
 unfold fnF at h
 cases h1 : cut sFunc s with
 | none => rw [h1] at h; cases h
 | some r1 =>
  rw [h1] at h
  simp only [Option.bind_some] at h
  cases h2 : below 5 r1 with
  | none => rw [h2] at h; cases h
  | some p =>
   rw [h2] at h
   simp only [Option.bind_some] at h
   cases h3 : cut [10] p.2 with
   | none => rw [h3] at h; cases h
   | some r3 =>
    rw [h3] at h
    simp only [Option.bind_some] at h
    cases h4 : blockF p.1 0 r3 with
    | none => rw [h4] at h; cases h
    | some b =>
     rw [h4] at h
     simp only [Option.bind_some] at h
     cases h5 : blocksF 9 p.1 1 b.2 with
     | none => rw [h5] at h; cases h
     | some q =>
      rw [h5] at h
      cases h
      exact FnIs.mk h1 h2 h3 (blockF_sound h4) (blocksF_sound _ _ _ _ _ h5)
end Code
namespace Code
def noBlk : Blk := ⟨[], .ret 0⟩
theorem blk_getD (bks : List Blk) (j : Nat) (h : j < bks.length) : bks.getD j noBlk = bks[j] := by rw [List.getD_eq_getElem?_getD, List.getElem?_eq_getElem h]; rfl
def smallB (bks : List Blk) : Bool := bks.all fun b => decide (b.values.length <= 100000) && (b.values.all fun v => decide (v.num < 60) && decide ((useT v.thing).length <= 100000) && (useT v.thing).all fun x => decide (x < 60)) && decide ((useL b.last).length <= 100000) && (useL b.last).all fun x => decide (x < 60)
theorem smallB_sound {bks : List Blk} (h : smallB bks = true) : Small bks := by
 intro b hb
 have h1 := List.all_eq_true.1 h b hb
 simp only [Bool.and_eq_true, List.all_eq_true, decide_eq_true_eq] at h1
 exact ⟨h1.1.1.1, fun v hv => ⟨(h1.1.1.2 v hv).1.1, (h1.1.1.2 v hv).1.2, (h1.1.1.2 v hv).2⟩, h1.1.2, h1.2⟩
def onceB : List Bool -> List Blk -> Bool
 | _, [] => true
 | R, b :: r => decide (nums b.values).Nodup && ((nums b.values).all fun x => R.getD x false == false) && onceB (addAll R b.values) r
theorem onceB_sound : ∀ (bks : List Blk) (R : List Bool), onceB R bks = true -> Once R bks
 | [], _, _ => trivial
 | b :: r, R, h => by
  simp only [onceB, Bool.and_eq_true, decide_eq_true_eq, List.all_eq_true, beq_iff_eq] at h
  exact ⟨⟨h.1.1, h.1.2⟩, onceB_sound r _ h.2⟩
def goesB (bks : List Blk) : Bool := bks.all fun b => (tg b.last).all fun t => decide (1 <= t) && decide (t < bks.length)
def phisB (bks : List Blk) : Bool := (List.range bks.length).all fun j => (bks.getD j noBlk).values.all fun v => match v.thing with
 | .phi of => decide (j ≠ 0) && decide (of.length = (edges bks).counts.getD j 0)
 | _ => true
theorem phisB_sound {bks : List Blk} (h : phisB bks = true) : PhisOk bks := by
 intro j hj v hv of ho
 have h1 := List.all_eq_true.1 h j (List.mem_range.2 hj)
 rw [blk_getD bks j hj] at h1
 have h2 := List.all_eq_true.1 h1 v hv
 rw [ho] at h2
 simp only [Bool.and_eq_true, decide_eq_true_eq] at h2
 exact h2
def valsB : List Bool -> List Val -> Bool
 | _, [] => true
 | R, v :: l => hasAll R (useT v.thing) && valsB (R.set v.num true) l
theorem valsB_sound : ∀ (l : List Val) (R : List Bool), valsB R l = true -> ValsOk R l
 | [], _, _ => trivial
 | v :: l, R, h => by
  simp only [valsB, Bool.and_eq_true] at h
  exact ⟨h.1, valsB_sound l _ h.2⟩
def phisMadeB (vals : List Val) (place : Nat) (R : List Bool) : Bool := vals.all fun v => match v.thing with
 | .phi of => decide (place < of.length) && decide (of.getD place 0 < 60) && R.getD (of.getD place 0) false
 | _ => true
theorem phisMadeB_sound {vals : List Val} {place : Nat} {R : List Bool} (h : phisMadeB vals place R = true) : PhisMade vals place R := by
 intro v hv of ho
 have h1 := List.all_eq_true.1 h v hv
 rw [ho] at h1
 simp only [Bool.and_eq_true, decide_eq_true_eq] at h1
 obtain ⟨⟨h2, h3⟩, h4⟩ := h1
 have e : of.getD place 0 = of[place] := by rw [List.getD_eq_getElem?_getD, List.getElem?_eq_getElem h2]; rfl
 rw [e] at h3 h4
 exact ⟨h2, h3, h4⟩
def aheadB (bks : List Blk) (A : Sets) : Bool := (List.range bks.length).all fun j =>
 let b := bks.getD j noBlk
 let R := A.getD j []
 valsB R b.values && hasAll (addAll R b.values) (useL b.last) && (List.range (tg b.last).length).all fun k =>
  phisMadeB (bks.getD ((tg b.last).getD k 0) noBlk).values ((edges bks).places j k) (addAll R b.values)
theorem aheadB_sound {bks : List Blk} {A : Sets} (h : aheadB bks A = true) : AheadOk bks A := by
 intro j hj hA
 have h1 := List.all_eq_true.1 h j (List.mem_range.2 hj)
 simp only [blk_getD bks j hj, sets_get A j hA, Bool.and_eq_true] at h1
 refine ⟨valsB_sound _ _ h1.1.1, h1.1.2, fun k hk ht => ?_⟩
 have h2 := List.all_eq_true.1 h1.2 k (List.mem_range.2 hk)
 have e : (tg bks[j].last).getD k 0 = (tg bks[j].last)[k] := by rw [List.getD_eq_getElem?_getD, List.getElem?_eq_getElem hk]; rfl
 rw [e, blk_getD bks _ ht] at h2
 exact phisMadeB_sound h2
def iterF : Nat -> List Blk -> Sets -> Option Sets
 | 0, _, _ => none
 | n + 1, bks, A => if (pass bks A).2 = true then iterF n bks (pass bks A).1 else some (pass bks A).1
theorem iterF_sound : ∀ (n : Nat) (bks : List Blk) (A B : Sets), iterF n bks A = some B -> Iter bks A B
 | 0, _, _, _, h => by cases h
 | n + 1, bks, A, B, h => by
  unfold iterF at h
  split at h
  ·rename_i hc
   exact Iter.more hc (iterF_sound n _ _ _ h)
  ·rename_i hc
   cases h
   exact Iter.done (by simpa using hc)
def aheadAllB (bks : List Blk) : Bool := match iterF 20 bks (startTo bks.length bks.length) with
 | some A => aheadB bks A
 | none => false
def rightB (bks : List Blk) : Bool := decide (bks.length <= 8) && decide (0 < bks.length) && smallB bks && onceB noNumber bks && goesB bks && (reachF 9 (tgs bks) (List.replicate bks.length false) 0 == List.replicate bks.length true) && phisB bks && aheadAllB bks
theorem rightB_sound {bks : List Blk} (h : rightB bks = true) : Right bks := by
 simp only [rightB, Bool.and_eq_true, decide_eq_true_eq, beq_iff_eq] at h
 obtain ⟨⟨⟨⟨⟨⟨⟨h1, h2⟩, h3⟩, h4⟩, h5⟩, h6⟩, h7⟩, h8⟩ := h
 refine ⟨h1, h2, smallB_sound h3, onceB_sound _ _ h4, fun b hb t ht => ?_, h6, phisB_sound h7, fun A _ _ hA => ?_⟩
 ·have := List.all_eq_true.1 (List.all_eq_true.1 h5 b hb) t ht
  simpa using this
 ·unfold aheadAllB at h8
  split at h8
  ·rename_i B hB
   rw [hA.det (iterF_sound _ _ _ _ hB)]
   exact aheadB_sound h8
  ·cases h8
end Code
namespace Code
def textW1 : List UInt8 := [102, 117, 110, 99, 32, 49, 10, 98, 48, 58, 10, 118, 48, 32, 61, 32, 97, 114, 103, 32, 48, 10, 118, 49, 32, 61, 32, 99, 111, 110, 115, 116, 32, 56, 10, 118, 50, 32, 61, 32, 109, 117, 108, 32, 118, 48, 32, 118, 49, 10, 114, 101, 116, 32, 118, 50, 10]
def fnW1 : Fn := ⟨1, [⟨[⟨0, .arg 0⟩, ⟨1, .const 8⟩, ⟨2, .apply 2 [0, 1]⟩], .ret 2⟩]⟩
theorem isW1 : FnIs textW1 fnW1 := fnF_sound (by kernel_rfl)
theorem rightW1 : Right fnW1.blocks := rightB_sound (by kernel_rfl)
end Code
end Go.Proofs.YtedkjanogjglkaaGreatDoor
