/-
  Parts of the proof: RStepP2, RwKeep, RwKeep2, RwKeep3, RTextW2.
-/
import Derived.Test.YtedkjanogjglkaaGreatDoorP17
import Derived.Test.YtedkjanogjglkaaGreatDoorP21
import Derived.Test.YtedkjanogjglkaaGreatDoorP12
set_option maxRecDepth 100000
set_option maxHeartbeats 2000000
namespace Go.Proofs.YtedkjanogjglkaaGreatDoor
open Go.Proofs.YtedkjanogjglkaaGreatDoor.Code (RTree Nm RSt Prs CRule)
namespace Code
mutual
theorem numR_fine {th : Nat -> Option Thing} (hok : ThOk th) (kn : Known) : ∀ (t : RTree), t.fine -> -2147483648 <= numR th kn t /\ numR th kn t < 2147483648
 | .num c, h => by
  simp only [numR]
  exact h
 | .name x, _ => by simp [numR]
 | .op k l, _ => by simp [numR]
 | .hash x, _ => by
  simp only [numR]
  exact constOf_32 hok _
 | .fold k kids, h => by
  obtain ⟨hk, hl, hts⟩ := h
  simp only [numR]
  have hr := opOf_range k hk
  have hall := numsR_fine hok kn kids hts
  have hnl := numsR_length th kn kids
  have hne : numsR th kn kids ≠ [] := by
   intro h0
   rw [h0] at hnl
   simp at hnl
   omega
  have h1 : (numsR th kn kids).headD 0 ∈ numsR th kn kids := by
   cases hc : numsR th kn kids with
   | nil => exact absurd hc hne
   | cons a b => simp
  have h2 : (numsR th kn kids).getLastD 0 ∈ numsR th kn kids := by
   rw [List.getLastD_eq_getLast?, List.getLast?_eq_some_getLast hne]
   exact List.getLast_mem hne
  cases hc : reckon k ((numsR th kn kids).headD 0) ((numsR th kn kids).getLastD 0) with
  | none => simp
  | some n => exact reckon_in32 hc (hall _ h1) (hall _ h2)
theorem numsR_fine {th : Nat -> Option Thing} (hok : ThOk th) (kn : Known) : ∀ (l : List RTree), fineAll l -> ∀ x ∈ numsR th kn l, -2147483648 <= x /\ x < 2147483648
 | [], _, x, hx => by simp [numsR] at hx
 | t :: l, h, x, hx => by
  simp only [numsR, List.mem_cons] at hx
  rcases hx with hx | hx
  ·rw [hx]; exact numR_fine hok kn t h.1
  ·exact numsR_fine hok kn l h.2 x hx
end
theorem free_ge (th : Nat -> Option Thing) : ∀ (f n : Nat), n <= free th f n
 | 0, n => Nat.le_refl n
 | f + 1, n => by
  rw [free]
  split
  ·exact Nat.le_trans (Nat.le_succ n) (free_ge th f (n + 1))
  ·exact Nat.le_refl n
theorem free_none (th : Nat -> Option Thing) : ∀ (f n : Nat), 60 - n <= f -> free th f n < 60 -> th (free th f n) = none
 | 0, n, h, h' => by rw [free] at h'; omega
 | f + 1, n, h, h' => by
  rw [free] at h' ⊢
  split
  ·rename_i hc
   rw [if_pos hc] at h'
   exact free_none th f (n + 1) (by omega) h'
  ·rename_i hc
   rw [if_neg hc] at h'
   cases ht : th n with
   | none => rfl
   | some t => exact absurd ⟨h', by rw [ht]; rfl⟩ hc
theorem freeFrom_ge (th : Nat -> Option Thing) (n : Nat) : n <= freeFrom th n := free_ge th 60 n
theorem freeFrom_none (th : Nat -> Option Thing) (n : Nat) (h : freeFrom th n < 60) : th (freeFrom th n) = none := free_none th 60 n (by omega) h
def MadeT (n : Nat) : Thing -> Prop
 | .const c => -2147483648 <= c /\ c < 2147483648
 | .apply k of => k < 13 /\ of.length = opOf k /\ ∀ x ∈ of, x < 60 \/ x < n
 | _ => False
theorem MadeT.mono {n m : Nat} {t : Thing} (h : MadeT n t) (hm : n <= m) : MadeT m t := by
 cases t with
 | const c => exact h
 | apply k of => exact ⟨h.1, h.2.1, fun x hx => (h.2.2 x hx).imp id (fun h => by omega)⟩
 | phi _ => exact h
 | arg _ => exact h
structure MkInv (th : Nat -> Option Thing) (m : Mk) : Prop where
 once : (m.made.map Val.num).Nodup
 low : ∀ v ∈ m.made, v.num < m.next
 new : ∀ v ∈ m.made, v.num < 60 -> th v.num = none
 made : ∀ v ∈ m.made, MadeT m.next v.thing
theorem MkInv.put {th : Nat -> Option Thing} {m : Mk} (h : MkInv th m) {t : Thing} (ht : MadeT m.next t) : MkInv th (m.put th t).2 /\ m.next <= (m.put th t).2.next /\ (m.put th t).1 < (m.put th t).2.next := by
 have hg := freeFrom_ge th m.next
 unfold Mk.put
 refine ⟨⟨?_, ?_, ?_, ?_⟩, by simp only; omega, by simp only; omega⟩
 ·simp only [List.map_append, List.map_cons, List.map_nil]
  rw [List.nodup_append]
  refine ⟨h.once, by simp, fun a ha b hb => ?_⟩
  simp only [List.mem_cons, List.not_mem_nil, or_false] at hb
  obtain ⟨v, hv, rfl⟩ := List.mem_map.1 ha
  have := h.low v hv
  omega
 ·intro v hv
  rcases List.mem_append.1 hv with hv | hv
  ·have := h.low v hv
   simp only; omega
  ·simp only [List.mem_cons, List.not_mem_nil, or_false] at hv
   subst hv
   simp only; omega
 ·intro v hv h60
  rcases List.mem_append.1 hv with hv | hv
  ·exact h.new v hv h60
  ·simp only [List.mem_cons, List.not_mem_nil, or_false] at hv
   subst hv
   exact freeFrom_none th _ h60
 ·intro v hv
  rcases List.mem_append.1 hv with hv | hv
  ·exact (h.made v hv).mono (by simp only; omega)
  ·simp only [List.mem_cons, List.not_mem_nil, or_false] at hv
   subst hv
   exact ht.mono (by simp only; omega)
mutual
theorem mkVal_inv {th : Nat -> Option Thing} (hok : ThOk th) (kn : Known) : ∀ (t : RTree) (m : Mk), t.fine -> (∀ p ∈ t.names, knownV kn p.1 < 60) -> MkInv th m -> MkInv th (mkVal th kn t m).2 /\ m.next <= (mkVal th kn t m).2.next /\ ((mkVal th kn t m).1 < 60 \/ (mkVal th kn t m).1 < (mkVal th kn t m).2.next)
 | .name x, m, _, hb, hm => ⟨hm, Nat.le_refl _, Or.inl (hb (x, false) (by simp [RTree.names]))⟩
 | .hash x, m, hf, _, hm => by
  obtain ⟨h1, h2, h3⟩ := hm.put (t := .const (numR th kn (.hash x))) (numR_fine hok kn _ hf)
  exact ⟨h1, h2, Or.inr h3⟩
 | .num c, m, hf, _, hm => by
  obtain ⟨h1, h2, h3⟩ := hm.put (t := .const (numR th kn (.num c))) (numR_fine hok kn _ hf)
  exact ⟨h1, h2, Or.inr h3⟩
 | .fold k l, m, hf, _, hm => by
  obtain ⟨h1, h2, h3⟩ := hm.put (t := .const (numR th kn (.fold k l))) (numR_fine hok kn _ hf)
  exact ⟨h1, h2, Or.inr h3⟩
 | .op k kids, m, hf, hb, hm => by
  obtain ⟨a1, a2, a3, a4⟩ := mkAll_inv hok kn kids m hf.2.2 (by simpa [RTree.names] using hb) hm
  obtain ⟨h1, h2, h3⟩ := a1.put (t := .apply k (mkAll th kn kids m).1) ⟨hf.1, by rw [a4]; exact hf.2.1, a3⟩
  exact ⟨h1, Nat.le_trans a2 h2, Or.inr h3⟩
theorem mkAll_inv {th : Nat -> Option Thing} (hok : ThOk th) (kn : Known) : ∀ (l : List RTree) (m : Mk), fineAll l -> (∀ p ∈ namesAll l, knownV kn p.1 < 60) -> MkInv th m -> MkInv th (mkAll th kn l m).2 /\ m.next <= (mkAll th kn l m).2.next /\ (∀ x ∈ (mkAll th kn l m).1, x < 60 \/ x < (mkAll th kn l m).2.next) /\ (mkAll th kn l m).1.length = l.length
 | [], m, _, _, hm => ⟨hm, Nat.le_refl _, by simp [mkAll], rfl⟩
 | t :: l, m, hf, hb, hm => by
  obtain ⟨h1, h2, h3⟩ := mkVal_inv hok kn t m hf.1 (fun p hp => hb p (by simp [namesAll, hp])) hm
  obtain ⟨a1, a2, a3, a4⟩ := mkAll_inv hok kn l (mkVal th kn t m).2 hf.2 (fun p hp => hb p (by simp [namesAll, hp])) h1
  simp only [mkAll]
  refine ⟨a1, Nat.le_trans h2 a2, fun x hx => ?_, by simp [a4]⟩
  rcases List.mem_cons.1 hx with hx | hx
  ·subst hx
   exact h3.imp id (fun h => by omega)
  ·exact a3 x hx
end
theorem mkThing_inv {th : Nat -> Option Thing} (hok : ThOk th) (kn : Known) (t : RTree) (ht : ∀ x, t ≠ .name x) (m : Mk) (hf : t.fine) (hb : ∀ p ∈ t.names, knownV kn p.1 < 60) (hm : MkInv th m) : MkInv th (mkThing th kn t m).2 /\ m.next <= (mkThing th kn t m).2.next /\ MadeT (mkThing th kn t m).2.next (mkThing th kn t m).1 := by
 cases t with
 | name x => exact absurd rfl (ht x)
 | hash x => exact ⟨hm, Nat.le_refl _, numR_fine hok kn _ hf⟩
 | num c => exact ⟨hm, Nat.le_refl _, numR_fine hok kn _ hf⟩
 | fold k l => exact ⟨hm, Nat.le_refl _, numR_fine hok kn _ hf⟩
 | op k kids =>
  obtain ⟨a1, a2, a3, a4⟩ := mkAll_inv hok kn kids m hf.2.2 (by simpa [RTree.names] using hb) hm
  exact ⟨a1, a2, hf.1, by rw [a4]; exact hf.2.1, a3⟩
theorem MkInv.nil (th : Nat -> Option Thing) : MkInv th ⟨[], 0⟩ := ⟨by simp, by simp, by simp, by simp⟩
theorem MadeT.good {n : Nat} {t : Thing} (h : MadeT n t) (hn : n <= 60) : NiceT t := by
 cases t with
 | const c => exact h
 | apply k of => exact ⟨h.1, h.2.1, fun x hx => (h.2.2 x hx).elim id (fun h => by omega)⟩
 | phi _ => exact h.elim
 | arg _ => exact h.elim
def SubB : List Blk -> List Blk -> Prop
 | [], [] => True
 | a :: l, b :: m => a.last = b.last /\ a.values.Sublist b.values /\ SubB l m
 | _, _ => False
theorem SubB.refl : ∀ l : List Blk, SubB l l
 | [] => trivial
 | _ :: l => ⟨rfl, List.Sublist.refl _, SubB.refl l⟩
theorem SubB.trans : ∀ {a b c : List Blk}, SubB a b -> SubB b c -> SubB a c
 | [], [], [], _, _ => trivial
 | _ :: _, _ :: _, _ :: _, h, k => ⟨h.1.trans k.1, h.2.1.trans k.2.1, SubB.trans h.2.2 k.2.2⟩
theorem SubB.flat : ∀ {a b : List Blk}, SubB a b -> (a.flatMap Blk.values).Sublist (b.flatMap Blk.values)
 | [], [], _ => List.Sublist.refl _
 | _ :: _, _ :: _, h => by
  rw [List.flatMap_cons, List.flatMap_cons]
  exact h.2.1.append (SubB.flat h.2.2)
theorem SubB.length : ∀ {a b : List Blk}, SubB a b -> a.length = b.length
 | [], [], _ => rfl
 | _ :: _, _ :: _, h => by simp [SubB.length h.2.2]
theorem SubB.mem : ∀ {a b : List Blk}, SubB a b -> ∀ x ∈ a, ∃ y ∈ b, x.last = y.last /\ x.values.Sublist y.values
 | [], [], _, x, hx => by cases hx
 | a :: _, b :: _, h, x, hx => by
  rcases List.mem_cons.1 hx with hx | hx
  ·subst hx; exact ⟨b, List.mem_cons_self .., h.1, h.2.1⟩
  ·obtain ⟨y, hy, h1⟩ := SubB.mem h.2.2 x hx
   exact ⟨y, List.mem_cons_of_mem _ hy, h1⟩
theorem SubB.sweep1 (u : List Blk) : ∀ l : List Blk, SubB (l.map fun b => (⟨b.values.filter (keepsV u), b.last⟩ : Blk)) l
 | [] => trivial
 | _ :: l => ⟨rfl, List.filter_sublist, SubB.sweep1 u l⟩
theorem SubB.sweepF : ∀ (n : Nat) (bks : List Blk), SubB (sweepF n bks) bks
 | 0, bks => SubB.refl _
 | n + 1, bks => by
  rw [Code.sweepF]
  split
  ·exact SubB.sweep1 bks bks
  ·exact (SubB.sweepF n _).trans (SubB.sweep1 bks bks)
theorem SubB.sweep (bks : List Blk) : SubB (Code.sweep bks) bks := SubB.sweepF _ _
theorem NiceB.sub {a b : List Blk} (h : NiceB b) (hs : SubB a b) : NiceB a := by
 refine ⟨by rw [hs.length]; exact h.few, fun x hx => ?_, fun x hx v hv => ?_, fun x hx => ?_⟩
 ·obtain ⟨y, hy, _, h2⟩ := hs.mem x hx
  exact Nat.le_trans h2.length_le (h.short y hy)
 ·obtain ⟨y, hy, _, h2⟩ := hs.mem x hx
  exact h.vals y hy v (h2.subset hv)
 ·obtain ⟨y, hy, h1, _⟩ := hs.mem x hx
  rw [h1]; exact h.lasts y hy
theorem OnceN.sub {a b : List Blk} (h : OnceN b) (hs : SubB a b) : OnceN a := List.Nodup.sublist (hs.flat.map _) h
theorem renB_good {a b : Nat} (hb : b < 60) {bks : List Blk} (h : NiceB bks) : NiceB (renB a b bks) := by
 have hren : ∀ x, x < 60 -> renN a b x < 60 := by
  intro x hx
  unfold renN
  split <;> assumption
 unfold renB
 refine ⟨by simpa using h.few, fun x hx => ?_, fun x hx v hv => ?_, fun x hx => ?_⟩
 ·obtain ⟨y, hy, rfl⟩ := List.mem_map.1 hx
  simpa using h.short y hy
 ·obtain ⟨y, hy, rfl⟩ := List.mem_map.1 hx
  obtain ⟨u, hu, rfl⟩ := List.mem_map.1 hv
  obtain ⟨h1, h2⟩ := h.vals y hy u hu
  refine ⟨h1, ?_⟩
  simp only
  cases ht : u.thing with
  | phi of =>
   rw [ht] at h2
   refine ⟨by simpa using h2.1, fun x hx => ?_⟩
   obtain ⟨z, hz, rfl⟩ := List.mem_map.1 hx
   exact hren z (h2.2 z hz)
  | apply k of =>
   rw [ht] at h2
   refine ⟨h2.1, by simpa using h2.2.1, fun x hx => ?_⟩
   obtain ⟨z, hz, rfl⟩ := List.mem_map.1 hx
   exact hren z (h2.2.2 z hz)
  | arg k => rw [ht] at h2; exact h2
  | const c => rw [ht] at h2; exact h2
 ·obtain ⟨y, hy, rfl⟩ := List.mem_map.1 hx
  have := h.lasts y hy
  simp only
  cases hl : y.last with
  | ret v => rw [hl] at this; exact hren v this
  | jump t => rw [hl] at this; exact this
  | ifs v x z => rw [hl] at this; exact ⟨hren v this.1, this.2⟩
theorem renB_nums (a b : Nat) (bks : List Blk) : ((renB a b bks).flatMap Blk.values).map Val.num = (bks.flatMap Blk.values).map Val.num := by
 unfold renB
 induction bks with
 | nil => rfl
 | cons k l ih =>
  rw [List.map_cons, List.flatMap_cons, List.flatMap_cons, List.map_append, List.map_append, ih]
  congr 1
  simp [Function.comp_def]
theorem putB_parts {bks : List Blk} {i k : Nat} {b : Blk} {v : Val} (hb : bks[i]? = some b) (hv : b.values[k]? = some v) : ∃ A B, bks.flatMap Blk.values = A ++ v :: B /\ ∀ l, (putB i k l bks).flatMap Blk.values = A ++ l ++ B := by
 obtain ⟨hi, rfl⟩ := List.getElem?_eq_some_iff.1 hb
 obtain ⟨hk, rfl⟩ := List.getElem?_eq_some_iff.1 hv
 refine ⟨(bks.take i).flatMap Blk.values ++ bks[i].values.take k, bks[i].values.drop (k + 1) ++ (bks.drop (i + 1)).flatMap Blk.values, ?_, fun l => ?_⟩
 ·conv => lhs; rw [<- List.take_append_drop i bks, List.drop_eq_getElem_cons hi]
  rw [List.flatMap_append, List.flatMap_cons]
  have e : bks[i].values = bks[i].values.take k ++ bks[i].values[k] :: bks[i].values.drop (k + 1) := by rw [<- List.drop_eq_getElem_cons hk, List.take_append_drop]
  conv => lhs; rw [e]
  simp only [List.append_assoc, List.cons_append]
 ·unfold putB
  rw [List.modify_eq_take_cons_drop hi, List.flatMap_append, List.flatMap_cons]
  simp
theorem putB_good {bks : List Blk} (h : NiceB bks) {i k : Nat} {l : List Val} (hl : ∀ v ∈ l, NiceV v) (hs : l.length <= 100) (hsh : ∀ b ∈ bks, b.values.length <= 900) : NiceB (putB i k l bks) := by
 have hm : ∀ x ∈ putB i k l bks, x ∈ bks \/ ∃ b ∈ bks, x = ⟨b.values.take k ++ l ++ b.values.drop (k + 1), b.last⟩ := by
  intro x hx
  unfold putB at hx
  obtain ⟨j, hj, rfl⟩ := List.getElem_of_mem hx
  rw [List.getElem_modify]
  split
  ·exact Or.inr ⟨_, List.getElem_mem _, rfl⟩
  ·exact Or.inl (List.getElem_mem _)
 refine ⟨by unfold putB; rw [List.length_modify]; exact h.few, fun x hx => ?_, fun x hx v hv => ?_, fun x hx => ?_⟩
 ·rcases hm x hx with hx | ⟨b, hb, rfl⟩
  ·exact h.short x hx
  ·have := hsh b hb
   simp only [List.length_append, List.length_take, List.length_drop]
   omega
 ·rcases hm x hx with hx | ⟨b, hb, rfl⟩
  ·exact h.vals x hx v hv
  ·simp only [List.append_assoc, List.mem_append] at hv
   rcases hv with hv | hv | hv
   ·exact h.vals b hb v (List.mem_of_mem_take hv)
   ·exact hl v hv
   ·exact h.vals b hb v (List.mem_of_mem_drop hv)
 ·rcases hm x hx with hx | ⟨b, hb, rfl⟩
  ·exact h.lasts x hx
  ·exact h.lasts b hb
theorem nodup_put {A B N : List Nat} {v : Nat} (h : (A ++ v :: B).Nodup) (hN : N.Nodup) (hn : ∀ n ∈ N, n = v \/ n ∉ A ++ v :: B) : (A ++ N ++ B).Nodup := by
 rw [List.append_assoc, List.nodup_append] at *
 obtain ⟨h1, h2, h3⟩ := h
 rw [List.nodup_cons] at h2
 refine ⟨h1, ?_, ?_⟩
 ·rw [List.nodup_append]
  refine ⟨hN, h2.2, fun a ha b hb e => ?_⟩
  subst e
  rcases hn a ha with e | e
  ·subst e; exact h2.1 hb
  ·exact e (by simp [hb])
 ·intro a ha b hb e
  subst e
  rcases List.mem_append.1 hb with hb | hb
  ·rcases hn a hb with e | e
   ·subst e; exact h3 a ha a (by simp) rfl
   ·exact e (by simp [ha])
  ·exact h3 a ha a (by simp [hb]) rfl
end Code
end Go.Proofs.YtedkjanogjglkaaGreatDoor
namespace Go.Proofs.YtedkjanogjglkaaGreatDoor.Code
theorem AtP.mk {bks : List Blk} {x j k : Nat} {b : Blk} {v : Val} (hb : bks[j]? = some b) (hv : b.values[k]? = some v) (hx : v.num = x) : AtP bks x j k := by
 obtain ⟨h, rfl⟩ := List.getElem?_eq_some_iff.1 hb
 obtain ⟨hk, rfl⟩ := List.getElem?_eq_some_iff.1 hv
 exact ⟨h, hk, hx⟩
theorem AtP.get {bks : List Blk} {x j k : Nat} (h : AtP bks x j k) : ∃ b v, bks[j]? = some b /\ b.values[k]? = some v /\ v.num = x := by
 obtain ⟨h1, h2, h3⟩ := h
 exact ⟨_, _, List.getElem?_eq_getElem h1, List.getElem?_eq_getElem h2, h3⟩
structure UsesQ (E : Nat -> List Nat) (bks : List Blk) : Prop where
 phi : ∀ (i k : Nat) (b : Blk) (v : Val) (of : List Nat), bks[i]? = some b -> b.values[k]? = some v -> v.thing = .phi of -> i ≠ 0 /\ of.length = (E i).length /\ ∀ (n x a : Nat), of[n]? = some x -> (E i)[n]? = some a -> ∃ c, bks[a]? = some c /\ MadeC bks x a c.values.length
 app : ∀ (i k : Nat) (b : Blk) (v : Val) (o : Nat) (of : List Nat), bks[i]? = some b -> b.values[k]? = some v -> v.thing = .apply o of -> ∀ x ∈ of, MadeC bks x i k
 last : ∀ (i : Nat) (b : Blk), bks[i]? = some b -> ∀ x ∈ useL b.last, MadeC bks x i b.values.length
theorem putB_get {bks : List Blk} {i k : Nat} {l : List Val} {b : Blk} (hb : bks[i]? = some b) (j : Nat) : (putB i k l bks)[j]? = if j = i then some ⟨b.values.take k ++ l ++ b.values.drop (k + 1), b.last⟩ else bks[j]? := by
 unfold putB
 rw [List.getElem?_modify]
 by_cases h : i = j
 ·subst h; simp [hb]
 ·rw [if_neg (fun e => h e.symm)]
  cases bks[j]? <;> simp [h]
theorem putB_ways {bks : List Blk} {i k : Nat} {l : List Val} {b : Blk} (hb : bks[i]? = some b) : SameWays bks (putB i k l bks) := by
 refine ⟨by simp [putB], fun j h h' => ?_⟩
 have h1 := putB_get (k := k) (l := l) hb j
 rw [List.getElem?_eq_getElem h'] at h1
 split at h1
 ·rename_i e
  subst e
  simp only [Option.some.injEq] at h1
  rw [h1]
  rw [List.getElem?_eq_getElem h, Option.some.injEq] at hb
  rw [hb]
 ·rw [List.getElem?_eq_getElem h, Option.some.injEq] at h1
  rw [h1]
theorem row_get {l : List Val} {vs : List Val} {k : Nat} (hk : k < vs.length) (q : Nat) : (vs.take k ++ l ++ vs.drop (k + 1))[q]? = if q < k then vs[q]? else if q < k + l.length then l[q - k]? else vs[q + 1 - l.length]? := by
 have hkl : (vs.take k).length = k := by simp; omega
 split
 ·rename_i h
  rw [List.append_assoc, List.getElem?_append_left (by omega), List.getElem?_take, if_pos h]
 ·rename_i h
  split
  ·rename_i h2
   rw [List.append_assoc, List.getElem?_append_right (by omega), hkl, List.getElem?_append_left (by omega)]
  ·rename_i h2
   rw [List.getElem?_append_right (by simp; omega), List.getElem?_drop]
   congr 1
   simp
   omega
def shiftP (i k n a q : Nat) : Nat := if a = i /\ k <= q then q + n else q
theorem MadeC.put {f : List Blk} {i k : Nat} {b : Blk} {v : Val} {l : List Val} {t : Thing} (hb : f[i]? = some b) (hv : b.values[k]? = some v) {x j m m' : Nat} (hm : ∀ q, q < m -> shiftP i k l.length j q < m') (h : MadeC f x j m) : MadeC (putB i k (l ++ [⟨v.num, t⟩]) f) x j m' := by
 obtain ⟨hk, hve⟩ := List.getElem?_eq_some_iff.1 hv
 refine MadeC.move (putB_ways hb) (P := shiftP i k l.length) (fun a q ha => ?_) (fun q _ hq => hm q hq) h
 obtain ⟨c, u, hc, hu, hx⟩ := ha.get
 by_cases ha : a = i
 ·subst ha
  rw [hb, Option.some.injEq] at hc
  subst hc
  refine AtP.mk (v := if q = k then ⟨v.num, t⟩ else u) (putB_get hb a |>.trans (if_pos rfl)) ?_ ?_
  ·simp only
   rw [row_get hk]
   unfold shiftP
   simp only [true_and, List.length_append, List.length_singleton]
   by_cases h1 : k <= q
   ·rw [if_pos h1, if_neg (by omega)]
    by_cases h2 : q = k
    ·subst h2
     rw [if_pos (by omega), if_pos rfl, show q + l.length - q = l.length by omega, List.getElem?_append_right (Nat.le_refl _)]
     simp
    ·rw [if_neg (by omega), if_neg h2, show q + l.length + 1 - (l.length + 1) = q by omega]
     exact hu
   ·rw [if_neg h1, if_pos (by omega), if_neg (by omega)]
    exact hu
  ·by_cases h2 : q = k
   ·subst h2
    rw [if_pos rfl]
    rw [hv, Option.some.injEq] at hu
    rw [<- hx, <- hu]
   ·rw [if_neg h2]; exact hx
 ·have : shiftP i k l.length a q = q := by unfold shiftP; rw [if_neg (by omega)]
  rw [this]
  exact AtP.mk ((putB_get hb a).trans (by rw [if_neg ha]; exact hc)) hu hx
theorem made_new {f : List Blk} {i k : Nat} {b : Blk} {l : List Val} {u : Val} (hb : f[i]? = some b) (hk : k < b.values.length) {q m : Nat} (hq : l[q]? = some u) (hm : k + q < m) : MadeC (putB i k l f) u.num i m := by
 have hql := (List.getElem?_eq_some_iff.1 hq).1
 refine ⟨i, k + q, AtP.mk ((putB_get hb i).trans (if_pos rfl)) ?_ rfl, Or.inl ⟨rfl, hm⟩⟩
 simp only
 rw [row_get hk, if_neg (by omega), if_pos (by omega), show k + q - k = q by omega]
 exact hq
theorem UsesQ.put {E : Nat -> List Nat} {f : List Blk} (hu : UsesQ E f) {i k : Nat} {b : Blk} {v : Val} (hb : f[i]? = some b) (hv : b.values[k]? = some v) {l : List Val} {t : Thing} (hl : ∀ u ∈ l, ∀ of, u.thing ≠ .phi of) (ht : ∀ of, t ≠ .phi of)
  (hla : ∀ (q : Nat) (u : Val), l[q]? = some u -> ∀ o of, u.thing = .apply o of -> ∀ x ∈ of, MadeC f x i k \/ ∃ (q' : Nat) (u' : Val), q' < q /\ l[q']? = some u' /\ u'.num = x)
  (hta : ∀ o of, t = .apply o of -> ∀ x ∈ of, MadeC f x i k \/ ∃ (q' : Nat) (u' : Val), l[q']? = some u' /\ u'.num = x) : UsesQ E (putB i k (l ++ [⟨v.num, t⟩]) f) := by
 obtain ⟨hk, _⟩ := List.getElem?_eq_some_iff.1 hv
 have hold : ∀ x j m, MadeC f x j m -> MadeC (putB i k (l ++ [⟨v.num, t⟩]) f) x j (if j = i /\ k < m then m + l.length else m) := by
  intro x j m h
  refine h.put hb hv (fun q hq => ?_)
  unfold shiftP
  split <;> split <;> omega
 have hlen : (b.values.take k ++ (l ++ [(⟨v.num, t⟩ : Val)]) ++ b.values.drop (k + 1)).length = b.values.length + l.length := by
  simp only [List.length_append, List.length_take, List.length_drop, List.length_singleton]
  omega
 have hcase : ∀ (j p : Nat) (c : Blk) (u : Val), (putB i k (l ++ [⟨v.num, t⟩]) f)[j]? = some c -> c.values[p]? = some u -> (∃ c0 q, f[j]? = some c0 /\ c0.values[q]? = some u /\ c.last = c0.last /\ p = (if j = i /\ k < q then q + l.length else q)) \/ (j = i /\ ∃ q, l[q]? = some u /\ p = k + q) \/ (j = i /\ u = ⟨v.num, t⟩ /\ p = k + l.length) := by
  intro j p c u hc hp
  rw [putB_get hb] at hc
  split at hc
  ·rename_i e
   subst e
   simp only [Option.some.injEq] at hc
   subst hc
   simp only at hp
   rw [row_get hk] at hp
   simp only [List.length_append, List.length_singleton] at hp
   split at hp
   ·exact Or.inl ⟨b, p, hb, hp, rfl, by rw [if_neg (by omega)]⟩
   ·split at hp
    ·by_cases h2 : p - k < l.length
     ·rw [List.getElem?_append_left h2] at hp
      exact Or.inr (Or.inl ⟨rfl, p - k, hp, by omega⟩)
     ·rw [List.getElem?_append_right (by omega)] at hp
      have h3 : p - k - l.length = 0 := by omega
      rw [h3] at hp
      simp only [List.getElem?_cons_zero, Option.some.injEq] at hp
      exact Or.inr (Or.inr ⟨rfl, hp.symm, by omega⟩)
    ·exact Or.inl ⟨b, p + 1 - (l.length + 1), hb, hp, rfl, by rw [if_pos ⟨rfl, by omega⟩]; omega⟩
  ·rename_i e
   exact Or.inl ⟨c, p, hc, hp, rfl, by rw [if_neg (by omega)]⟩
 refine ⟨fun j p c u of hc hp hth => ?_, fun j p c u o of hc hp hth x hx => ?_, fun j c hc x hx => ?_⟩
 ·rcases hcase j p c u hc hp with ⟨c0, q, h0, hq, _, _⟩ | ⟨_, q, hq, _⟩ | ⟨_, rfl, _⟩
  ·obtain ⟨h1, h2, h3⟩ := hu.phi j q c0 u of h0 hq hth
   refine ⟨h1, h2, fun n x a hx ha => ?_⟩
   obtain ⟨d, hd, hm⟩ := h3 n x a hx ha
   have hm' := hold x a _ hm
   have hg := putB_get (k := k) (l := l ++ [⟨v.num, t⟩]) hb a
   by_cases hai : a = i
   ·subst hai
    rw [if_pos rfl] at hg
    rw [hb, Option.some.injEq] at hd
    subst hd
    rw [if_pos ⟨rfl, hk⟩] at hm'
    exact ⟨_, hg, by simp only; rw [hlen]; exact hm'⟩
   ·rw [if_neg hai] at hg
    rw [if_neg (fun h => hai h.1)] at hm'
    exact ⟨d, hg.trans hd, hm'⟩
  ·exact absurd hth (hl u (List.mem_of_getElem? hq) of)
  ·exact absurd hth (ht of)
 ·rcases hcase j p c u hc hp with ⟨c0, q, h0, hq, _, rfl⟩ | ⟨rfl, q, hq, rfl⟩ | ⟨rfl, rfl, rfl⟩
  ·exact hold x j q (hu.app j q c0 u o of h0 hq hth x hx)
  ·rcases hla q u hq o of hth x hx with h | ⟨q', u', hlt, hq', rfl⟩
   ·have := hold x j k h
    rw [if_neg (by omega)] at this
    obtain ⟨a, r, h1, h2⟩ := this
    exact ⟨a, r, h1, h2.imp (fun h => ⟨h.1, by omega⟩) id⟩
   ·exact made_new hb hk (List.getElem?_append_left (List.getElem?_eq_some_iff.1 hq').1 |>.trans hq') (by omega)
  ·rcases hta o of hth x hx with h | ⟨q', u', hq', rfl⟩
   ·have := hold x j k h
    rw [if_neg (by omega)] at this
    obtain ⟨a, r, h1, h2⟩ := this
    exact ⟨a, r, h1, h2.imp (fun h => ⟨h.1, by omega⟩) id⟩
   ·have hlt := (List.getElem?_eq_some_iff.1 hq').1
    exact made_new hb hk (List.getElem?_append_left hlt |>.trans hq') (by omega)
 ·have hg := hc
  rw [putB_get hb] at hg
  split at hg
  ·rename_i e
   subst e
   simp only [Option.some.injEq] at hg
   subst hg
   have := hold x j _ (hu.last j b hb x hx)
   rw [if_pos ⟨rfl, hk⟩] at this
   simp only
   rw [hlen]
   exact this
  ·rename_i e
   have := hold x j _ (hu.last j c hg x hx)
   rw [if_neg (fun h => e h.1)] at this
   exact this
theorem tg_ren (a b : Nat) (z : Last) : tg (renL a b z) = tg z := by cases z <;> rfl
theorem renB_get (a b : Nat) (bks : List Blk) (j : Nat) : (renB a b bks)[j]? = (bks[j]?).map fun k => ⟨k.values.map fun v => ⟨v.num, renT a b v.thing⟩, renL a b k.last⟩ := by
 unfold renB
 rw [List.getElem?_map]
theorem renB_ways (a b : Nat) (bks : List Blk) : SameWays bks (renB a b bks) := by
 refine ⟨by simp [renB], fun j h h' => ?_⟩
 have h1 := renB_get a b bks j
 rw [List.getElem?_eq_getElem h', List.getElem?_eq_getElem h, Option.map_some, Option.some.injEq] at h1
 rw [h1]
 exact tg_ren _ _ _
theorem SameWays.trans {f g h : List Blk} (a : SameWays f g) (b : SameWays g h) : SameWays f h :=
 ⟨b.len.trans a.len, fun j h1 h2 => (b.tg j (by rw [a.len]; exact h1) h2).trans (a.tg j h1 (by rw [a.len]; exact h1))⟩
def dropP (i k a q : Nat) : Nat := if a = i /\ k < q then q - 1 else q
theorem cut_get {vs : List Val} {k : Nat} (hk : k < vs.length) (q : Nat) : (vs.take k ++ [] ++ vs.drop (k + 1))[q]? = if q < k then vs[q]? else vs[q + 1]? := by
 rw [row_get hk]
 split
 ·rfl
 ·simp only [List.length_nil, Nat.add_zero, Nat.sub_zero]
  rw [if_neg (by omega)]
theorem MadeC.cut {f : List Blk} {i k y : Nat} {b : Blk} {v : Val} (hb : f[i]? = some b) (hv : b.values[k]? = some v) {x j m m' : Nat} (hx : x ≠ v.num) (hm : ∀ q, q < m -> ¬ (j = i /\ q = k) -> dropP i k j q < m') (h : MadeC f x j m) : MadeC (renB v.num y (putB i k [] f)) x j m' := by
 obtain ⟨hk, _⟩ := List.getElem?_eq_some_iff.1 hv
 have hne : ∀ a q, AtP f x a q -> ¬ (a = i /\ q = k) := by
  rintro a q ha ⟨rfl, rfl⟩
  obtain ⟨c, u, hc, hu, hux⟩ := ha.get
  rw [hb, Option.some.injEq] at hc
  subst hc
  rw [hv, Option.some.injEq] at hu
  subst hu
  exact hx hux.symm
 refine MadeC.move ((putB_ways hb).trans (renB_ways _ _ _)) (P := dropP i k) (fun a q ha => ?_) (fun q ha hq => hm q hq (hne _ _ ha)) h
 have hn := hne a q ha
 obtain ⟨c, u, hc, hu, hux⟩ := ha.get
 have hg := renB_get v.num y (putB i k [] f) a
 rw [putB_get hb] at hg
 by_cases hai : a = i
 ·subst hai
  rw [hb, Option.some.injEq] at hc
  subst hc
  rw [if_pos rfl, Option.map_some] at hg
  refine AtP.mk (v := ⟨u.num, renT v.num y u.thing⟩) hg ?_ hux
  simp only
  rw [List.getElem?_map, cut_get hk]
  unfold dropP
  simp only [true_and]
  by_cases h1 : k < q
  ·rw [if_pos h1, if_neg (by omega), show q - 1 + 1 = q by omega, hu]
   rfl
  ·rw [if_neg h1, if_pos (by omega), hu]
   rfl
 ·rw [if_neg hai, hc, Option.map_some] at hg
  have : dropP i k a q = q := by unfold dropP; rw [if_neg (fun h => hai h.1)]
  rw [this]
  refine AtP.mk (v := ⟨u.num, renT v.num y u.thing⟩) hg ?_ hux
  simp only
  rw [List.getElem?_map, hu]
  rfl
theorem mem_renT {a b : Nat} {t : Thing} {o : Nat} {of : List Nat} (h : renT a b t = .apply o of) : ∃ of0, t = .apply o of0 /\ of = of0.map (renN a b) := by
 cases t with
 | apply k l => simp only [renT, Thing.apply.injEq] at h; exact ⟨l, by rw [h.1], h.2.symm⟩
 | phi l => simp [renT] at h
 | arg k => simp [renT] at h
 | const c => simp [renT] at h
theorem mem_renPhi {a b : Nat} {t : Thing} {of : List Nat} (h : renT a b t = .phi of) : ∃ of0, t = .phi of0 /\ of = of0.map (renN a b) := by
 cases t with
 | apply k l => simp [renT] at h
 | phi l => simp only [renT, Thing.phi.injEq] at h; exact ⟨l, rfl, h.symm⟩
 | arg k => simp [renT] at h
 | const c => simp [renT] at h
theorem mem_renL {a b : Nat} {z : Last} {x : Nat} (h : x ∈ useL (renL a b z)) : ∃ x0 ∈ useL z, x = renN a b x0 := by
 cases z with
 | ret v => simp only [renL, useL, List.mem_cons, List.not_mem_nil, or_false] at h; exact ⟨v, by simp [useL], h⟩
 | jump t => simp [renL, useL] at h
 | ifs v p q => simp only [renL, useL, List.mem_cons, List.not_mem_nil, or_false] at h; exact ⟨v, by simp [useL], h⟩
theorem UsesQ.cut {E : Nat -> List Nat} {f : List Blk} (hu : UsesQ E f) (huq : Uniq f) (hr : ∀ j, j < f.length -> Rch f j) {i k y : Nat} {b : Blk} {v : Val} (hb : f[i]? = some b) (hv : b.values[k]? = some v) (hy : MadeC f y i k) : UsesQ E (renB v.num y (putB i k [] f)) := by
 obtain ⟨hk, _⟩ := List.getElem?_eq_some_iff.1 hv
 have hat : AtP f v.num i k := AtP.mk hb hv rfl
 have hyn : y ≠ v.num := by
  rintro rfl
  obtain ⟨a, q, h1, h2⟩ := hy
  obtain ⟨rfl, rfl⟩ := huq _ _ _ _ _ hat h1
  rcases h2 with ⟨_, h⟩ | ⟨h, _⟩
  ·omega
  ·exact h rfl
 have hold : ∀ x j m, j < f.length -> MadeC f x j m -> MadeC (renB v.num y (putB i k [] f)) (renN v.num y x) j (if j = i /\ k < m then m - 1 else m) := by
  intro x j m hj h
  have h' : MadeC f (renN v.num y x) j m /\ renN v.num y x ≠ v.num := by
   unfold renN
   split
   ·rename_i e
    subst e
    exact ⟨MadeC.trans huq hr hat hy h hj, hyn⟩
   ·rename_i e
    exact ⟨h, e⟩
  refine h'.1.cut hb hv h'.2 (fun q hq hne => ?_)
  unfold dropP
  split <;> split <;> omega
 have hlen : (b.values.take k ++ [] ++ b.values.drop (k + 1)).length = b.values.length - 1 := by
  simp only [List.append_nil, List.length_append, List.length_take, List.length_drop]
  omega
 have hcase : ∀ (j p : Nat) (c : Blk) (u : Val), (renB v.num y (putB i k [] f))[j]? = some c -> c.values[p]? = some u -> ∃ (c0 : Blk) (q : Nat) (u0 : Val), f[j]? = some c0 /\ c0.values[q]? = some u0 /\ u.thing = renT v.num y u0.thing /\ p = (if j = i /\ k < q then q - 1 else q) := by
  intro j p c u hc hp
  rw [renB_get, putB_get hb] at hc
  split at hc
  ·rename_i e
   subst e
   simp only [Option.map_some, Option.some.injEq] at hc
   subst hc
   simp only at hp
   rw [List.getElem?_map, cut_get hk, Option.map_eq_some_iff] at hp
   obtain ⟨u0, hu0, rfl⟩ := hp
   split at hu0
   ·exact ⟨b, p, u0, hb, hu0, rfl, by rw [if_neg (by omega)]⟩
   ·exact ⟨b, p + 1, u0, hb, hu0, rfl, by rw [if_pos ⟨rfl, by omega⟩]; omega⟩
  ·rename_i e
   rw [Option.map_eq_some_iff] at hc
   obtain ⟨c0, hc0, rfl⟩ := hc
   simp only at hp
   rw [List.getElem?_map, Option.map_eq_some_iff] at hp
   obtain ⟨u0, hu0, rfl⟩ := hp
   exact ⟨c0, p, u0, hc0, hu0, rfl, by rw [if_neg (by omega)]⟩
 have hend : ∀ (j : Nat) (c0 : Blk), f[j]? = some c0 -> ∃ c, (renB v.num y (putB i k [] f))[j]? = some c /\ c.last = renL v.num y c0.last /\ c.values.length = (if j = i /\ k < c0.values.length then c0.values.length - 1 else c0.values.length) := by
  intro j c0 h0
  rw [renB_get, putB_get hb]
  by_cases e : j = i
  ·subst e
   rw [hb, Option.some.injEq] at h0
   subst h0
   rw [if_pos rfl]
   refine ⟨_, rfl, rfl, ?_⟩
   rw [if_pos ⟨rfl, hk⟩]
   simp only [List.length_map]
   exact hlen
  ·rw [if_neg e, h0]
   refine ⟨_, rfl, rfl, ?_⟩
   rw [if_neg (fun h => e h.1)]
   simp
 refine ⟨fun j p c u of hc hp hth => ?_, fun j p c u o of hc hp hth x hx => ?_, fun j c hc x hx => ?_⟩
 ·obtain ⟨c0, q, u0, h0, hq, hut, _⟩ := hcase j p c u hc hp
  rw [hut] at hth
  obtain ⟨of0, h1, rfl⟩ := mem_renPhi hth
  obtain ⟨h2, h3, h4⟩ := hu.phi j q c0 u0 of0 h0 hq h1
  refine ⟨h2, by simpa using h3, fun n x a hx ha => ?_⟩
  rw [List.getElem?_map, Option.map_eq_some_iff] at hx
  obtain ⟨x0, hx0, rfl⟩ := hx
  obtain ⟨d, hd, hm⟩ := h4 n x0 a hx0 ha
  obtain ⟨c', hc', _, hl'⟩ := hend a d hd
  refine ⟨c', hc', ?_⟩
  rw [hl']
  exact hold x0 a _ (List.getElem?_eq_some_iff.1 hd).1 hm
 ·obtain ⟨c0, q, u0, h0, hq, hut, rfl⟩ := hcase j p c u hc hp
  rw [hut] at hth
  obtain ⟨of0, h1, rfl⟩ := mem_renT hth
  obtain ⟨x0, hx0, rfl⟩ := List.mem_map.1 hx
  exact hold x0 j q (List.getElem?_eq_some_iff.1 h0).1 (hu.app j q c0 u0 o of0 h0 hq h1 x0 hx0)
 ·have hj : j < f.length := by
   have := (List.getElem?_eq_some_iff.1 hc).1
   simpa [renB, putB] using this
  obtain ⟨c', hc', hl1, hl2⟩ := hend j f[j] (List.getElem?_eq_getElem hj)
  rw [hc, Option.some.injEq] at hc'
  subst hc'
  rw [hl1] at hx
  obtain ⟨x0, hx0, rfl⟩ := mem_renL hx
  rw [hl2]
  exact hold x0 j _ hj (hu.last j _ (List.getElem?_eq_getElem hj) x0 hx0)
theorem filter_get {α : Type} (keep : α -> Bool) : ∀ (l : List α) (q : Nat) (u : α), l[q]? = some u -> keep u = true -> (l.filter keep)[((l.take q).filter keep).length]? = some u
 | a :: l, 0, u, h, hk => by
  simp only [List.getElem?_cons_zero, Option.some.injEq] at h
  subst h
  simp [hk]
 | a :: l, q + 1, u, h, hk => by
  simp only [List.getElem?_cons_succ] at h
  have ih := filter_get keep l q u h hk
  rw [List.take_succ_cons, List.filter_cons, List.filter_cons]
  split
  ·rw [List.length_cons, List.getElem?_cons_succ]; exact ih
  ·exact ih
theorem filter_src {α : Type} (keep : α -> Bool) : ∀ (l : List α) (p : Nat) (u : α), (l.filter keep)[p]? = some u -> ∃ q : Nat, l[q]? = some u /\ keep u = true /\ p = ((l.take q).filter keep).length
 | [], p, u, h => by simp at h
 | a :: l, p, u, h => by
  rw [List.filter_cons] at h
  cases hk : keep a with
  | true =>
   rw [hk, if_pos rfl] at h
   cases p with
   | zero =>
    simp only [List.getElem?_cons_zero, Option.some.injEq] at h
    subst h
    exact ⟨0, rfl, hk, by simp⟩
   | succ p =>
    simp only [List.getElem?_cons_succ] at h
    obtain ⟨q, h1, h2, h3⟩ := filter_src keep l p u h
    exact ⟨q + 1, by simpa using h1, h2, by rw [List.take_succ_cons, List.filter_cons, hk, if_pos rfl, List.length_cons, h3]⟩
  | false =>
   rw [hk, if_neg (by simp)] at h
   obtain ⟨q, h1, h2, h3⟩ := filter_src keep l p u h
   exact ⟨q + 1, by simpa using h1, h2, by rw [List.take_succ_cons, List.filter_cons, hk, if_neg (by simp), h3]⟩
theorem filter_lt {α : Type} (keep : α -> Bool) : ∀ (l : List α) (q m : Nat) (u : α), l[q]? = some u -> keep u = true -> q < m -> ((l.take q).filter keep).length < ((l.take m).filter keep).length
 | a :: l, 0, m + 1, u, h, hk, _ => by
  simp only [List.getElem?_cons_zero, Option.some.injEq] at h
  subst h
  simp [List.take_succ_cons, hk]
 | a :: l, q + 1, m + 1, u, h, hk, hm => by
  simp only [List.getElem?_cons_succ] at h
  have ih := filter_lt keep l q m u h hk (by omega)
  rw [List.take_succ_cons, List.take_succ_cons, List.filter_cons, List.filter_cons]
  split
  ·simpa using ih
  ·exact ih
theorem sweep1_get (bks : List Blk) (j : Nat) : (sweep1 bks)[j]? = (bks[j]?).map fun b => ⟨b.values.filter (keepsV bks), b.last⟩ := by
 unfold sweep1
 rw [List.getElem?_map]
theorem sweep1_ways (bks : List Blk) : SameWays bks (sweep1 bks) := by
 refine ⟨by simp [sweep1], fun j h h' => ?_⟩
 have h1 := sweep1_get bks j
 rw [List.getElem?_eq_getElem h', List.getElem?_eq_getElem h, Option.map_some, Option.some.injEq] at h1
 rw [h1]
theorem used_of {bks : List Blk} {j : Nat} {b : Blk} {x : Nat} (hb : bks[j]? = some b) (hx : x ∈ usesB b) : usedB bks x = true := by
 unfold usedB
 rw [List.contains_iff_mem]
 exact List.mem_flatMap.2 ⟨b, List.mem_of_getElem? hb, hx⟩
def valsAt (bks : List Blk) (j : Nat) : List Val := match bks[j]? with
 | some b => b.values
 | none => []
def sweepP (bks : List Blk) (a q : Nat) : Nat := (((valsAt bks a).take q).filter (keepsV bks)).length
theorem MadeC.swept {f : List Blk} {x j m m' : Nat} (hu : usedB f x = true) (hm : m' = sweepP f j m) (h : MadeC f x j m) : MadeC (sweep1 f) x j m' := by
 have hkeep : ∀ u : Val, u.num = x -> keepsV f u = true := by
  rintro u rfl
  unfold keepsV
  rw [hu]; rfl
 refine MadeC.move (sweep1_ways f) (P := sweepP f) (fun a q ha => ?_) (fun q ha hq => ?_) h
 ·obtain ⟨c, u, hc, hu', hx⟩ := ha.get
  refine AtP.mk (v := u) ((sweep1_get f a).trans (by rw [hc]; rfl)) ?_ hx
  simp only
  unfold sweepP valsAt
  rw [hc]
  exact filter_get _ _ _ _ hu' (hkeep u hx)
 ·obtain ⟨c, u, hc, hu', hx⟩ := ha.get
  rw [hm]
  unfold sweepP valsAt
  rw [hc]
  exact filter_lt _ _ _ _ _ hu' (hkeep u hx) hq
theorem UsesQ.sweep1 {E : Nat -> List Nat} {f : List Blk} (hu : UsesQ E f) : UsesQ E (sweep1 f) := by
 have hsrc : ∀ (j p : Nat) (c : Blk) (u : Val), (Code.sweep1 f)[j]? = some c -> c.values[p]? = some u -> ∃ (c0 : Blk) (q : Nat), f[j]? = some c0 /\ c0.values[q]? = some u /\ p = sweepP f j q /\ c.last = c0.last := by
  intro j p c u hc hp
  rw [sweep1_get, Option.map_eq_some_iff] at hc
  obtain ⟨c0, h0, rfl⟩ := hc
  obtain ⟨q, h1, _, h3⟩ := filter_src _ _ _ _ hp
  refine ⟨c0, q, h0, h1, ?_, rfl⟩
  unfold sweepP valsAt
  rw [h0]
  exact h3
 have hlen : ∀ (j : Nat) (c0 : Blk), f[j]? = some c0 -> ∃ c, (Code.sweep1 f)[j]? = some c /\ c.values.length = sweepP f j c0.values.length := by
  intro j c0 h0
  refine ⟨_, (sweep1_get f j).trans (by rw [h0]; rfl), ?_⟩
  unfold sweepP valsAt
  rw [h0]
  simp
 have huse : ∀ (j q : Nat) (c0 : Blk) (u : Val), f[j]? = some c0 -> c0.values[q]? = some u -> ∀ x ∈ allUses u.thing, usedB f x = true := by
  intro j q c0 u h0 hq x hx
  exact used_of h0 (List.mem_append_left _ (List.mem_flatMap.2 ⟨u, List.mem_of_getElem? hq, hx⟩))
 refine ⟨fun j p c u of hc hp hth => ?_, fun j p c u o of hc hp hth x hx => ?_, fun j c hc x hx => ?_⟩
 ·obtain ⟨c0, q, h0, hq, _, _⟩ := hsrc j p c u hc hp
  obtain ⟨h1, h2, h3⟩ := hu.phi j q c0 u of h0 hq hth
  refine ⟨h1, h2, fun n x a hx ha => ?_⟩
  obtain ⟨d, hd, hm⟩ := h3 n x a hx ha
  obtain ⟨d', hd', hl'⟩ := hlen a d hd
  exact ⟨d', hd', hm.swept (huse j q c0 u h0 hq x (by rw [hth]; exact List.mem_of_getElem? hx)) hl'⟩
 ·obtain ⟨c0, q, h0, hq, hp', _⟩ := hsrc j p c u hc hp
  exact (hu.app j q c0 u o of h0 hq hth x hx).swept (huse j q c0 u h0 hq x (by rw [hth]; exact hx)) hp'
 ·have hc' := hc
  rw [sweep1_get, Option.map_eq_some_iff] at hc'
  obtain ⟨c0, h0, rfl⟩ := hc'
  obtain ⟨c', h1, h2⟩ := hlen j c0 h0
  rw [hc, Option.some.injEq] at h1
  rw [<- h1] at h2
  exact (hu.last j c0 h0 x hx).swept (used_of h0 (List.mem_append_right _ hx)) h2
theorem UsesQ.sweepF {E : Nat -> List Nat} : ∀ (n : Nat) {f : List Blk}, UsesQ E f -> UsesQ E (sweepF n f)
 | 0, _, h => h
 | n + 1, f, h => by
  rw [Code.sweepF]
  split
  ·exact h.sweep1
  ·exact UsesQ.sweepF n h.sweep1
theorem UsesQ.sweep {E : Nat -> List Nat} {f : List Blk} (h : UsesQ E f) : UsesQ E (sweep f) := UsesQ.sweepF _ h
theorem sweepF_ways : ∀ (n : Nat) (f : List Blk), SameWays f (sweepF n f)
 | 0, f => ⟨rfl, fun _ _ _ => rfl⟩
 | n + 1, f => by
  rw [sweepF]
  split
  ·exact sweep1_ways f
  ·exact (sweep1_ways f).trans (sweepF_ways n _)
theorem sweep_ways (f : List Blk) : SameWays f (sweep f) := sweepF_ways _ f
theorem once_uniq {bks : List Blk} (h : OnceN bks) : Uniq bks := by
 intro x j k j' k' h1 h2
 obtain ⟨b, v, hb, hv, hx⟩ := h1.get
 obtain ⟨b', v', hb', hv', hx'⟩ := h2.get
 obtain ⟨A, B, hall, hput⟩ := putB_parts hb hv
 unfold OnceN at h
 rw [hall, List.map_append, List.map_cons, List.nodup_append, List.nodup_cons] at h
 by_cases hj : j' = j
 ·subst hj
  rw [hb, Option.some.injEq] at hb'
  subst hb'
  refine ⟨rfl, ?_⟩
  apply Classical.byContradiction
  intro hne
  have hk := (List.getElem?_eq_some_iff.1 hv).1
  have hm : v' ∈ (putB j' k [] bks).flatMap Blk.values := by
   refine List.mem_flatMap.2 ⟨⟨b.values.take k ++ [] ++ b.values.drop (k + 1), b.last⟩, List.mem_of_getElem? ((putB_get hb j').trans (if_pos rfl)), ?_⟩
   by_cases hlt : k' < k
   ·exact List.mem_of_getElem? ((cut_get hk k').trans (by rw [if_pos hlt]; exact hv'))
   ·exact List.mem_of_getElem? ((cut_get hk (k' - 1)).trans (by rw [if_neg (by omega), show k' - 1 + 1 = k' by omega]; exact hv'))
  rw [hput] at hm
  simp only [List.append_nil, List.mem_append] at hm
  rcases hm with hm | hm
  ·exact h.2.2 v'.num (List.mem_map_of_mem hm) v.num (by simp) (by rw [hx, hx'])
  ·exact h.2.1.1 (by rw [hx, <- hx']; exact List.mem_map_of_mem hm)
 ·exfalso
  have hm : v' ∈ (putB j k [] bks).flatMap Blk.values := List.mem_flatMap.2 ⟨b', List.mem_of_getElem? ((putB_get hb j').trans (by rw [if_neg hj]; exact hb')), List.mem_of_getElem? hv'⟩
  rw [hput] at hm
  simp only [List.append_nil, List.mem_append] at hm
  rcases hm with hm | hm
  ·exact h.2.2 v'.num (List.mem_map_of_mem hm) v.num (by simp) (by rw [hx, hx'])
  ·exact h.2.1.1 (by rw [hx, <- hx']; exact List.mem_map_of_mem hm)
end Go.Proofs.YtedkjanogjglkaaGreatDoor.Code
namespace Go.Proofs.YtedkjanogjglkaaGreatDoor
open Go.RowKit
theorem IntsAt.one (w : World) (T : TypeId) (n : Int) : IntsAt (w.alloc (.cells #[.int .i64 n] T)) (.slice (some ⟨w.heap.size, 0, none⟩) 1 1) [n] := by
 refine ⟨_, _, rfl, fun j hj => ⟨_, rfl, ?_⟩⟩
 have h0 : j = 0 := by simpa using hj
 subst h0
 exact blk_cell (heap_alloc_new w _) 0 _ rfl
theorem IntsAt.two (w : World) (T : TypeId) (n m : Int) : IntsAt (w.alloc (.cells #[.int .i64 n, .int .i64 m] T)) (.slice (some ⟨w.heap.size, 0, none⟩) 2 2) [n, m] := by
 refine ⟨_, _, rfl, fun j hj => ⟨_, rfl, ?_⟩⟩
 have h0 : j = 0 \/ j = 1 := by simp at hj; omega
 rcases h0 with rfl | rfl
 ·exact blk_cell (heap_alloc_new w _) 0 _ rfl
 ·exact blk_cell (heap_alloc_new w _) 1 _ rfl
theorem numbered_one (mark : List UInt8) (n : Int) (hn : -9223372036854775808 <= n /\ n <= 9223372036854775807) (hmk : mark.length <= 100) (w : World) (g : Nat) (hg : g = w.heap.size) (ht : TabI w) :
  Calls Tryz.prog 80 #[.string (bs mark), .slice (some ⟨g, 0, none⟩) 1 1] (w.alloc (.cells #[.int .i64 n] 3)) fun e w' => e = .returned (.string (bs (Code.numb mark [n]))) /\ Below w.heap.size w w' := by
 subst hg
 refine (numbered_any mark [n] _ _ (IntsAt.one w _ n) (by simpa using hn) (by simp) hmk (ht.below (below_al (Below.refl _ _) _))).mono ?_
 rintro e w' ⟨rfl, hb⟩
 exact ⟨rfl, unalB hb⟩
theorem ofNats_in {l : List Nat} (h : ∀ x ∈ l, x < 60) : ∀ n ∈ Code.ofNats l, -9223372036854775808 <= n /\ n <= 9223372036854775807 := by
 intro n hn
 obtain ⟨x, hx, rfl⟩ := List.mem_map.1 hn
 have := h x hx
 have e : Int.ofNat x = (x : Int) := rfl
 omega
theorem one_in {x : Nat} (h : x < 1000) : -9223372036854775808 <= (x : Int) /\ (x : Int) <= 9223372036854775807 := by omega
theorem numb_size (mark : List UInt8) (n : Int) (hn : -9223372036854775808 <= n /\ n <= 9223372036854775807) (hmk : mark.length <= 100) : (bs (Code.numb mark [n])).size <= 121 := by
 rw [bs_size]
 have := Code.numb_len mark [n] (by simpa using hn)
 simp at this
 omega
theorem numbs_size (mark : List UInt8) (l : List Nat) (hl : ∀ x ∈ l, x < 60) (hll : l.length <= 100000) (hmk : mark.length <= 100) : (bs (Code.numb mark (Code.ofNats l))).size <= 12100000 := by
 rw [bs_size]
 have h1 := Code.numbs_len mark l hl
 have h2 : l.length * (mark.length + 21) <= 100000 * 121 := Nat.mul_le_mul hll (by omega)
 omega
theorem tArg_arg (v : Value) (w : World) : (Instr.typeAssert (.iface 234 v) 167 234 true).run Tryz.prog w = .ok (.tuple #[v, .bool true]) w := by kernel_rfl
theorem tArg_const (v : Value) (w : World) : (Instr.typeAssert (.iface 236 v) 167 234 true).run Tryz.prog w = .ok (.tuple #[.agg #[.int .i64 0], .bool false]) w := by kernel_rfl
theorem tArg_apply (v : Value) (w : World) : (Instr.typeAssert (.iface 238 v) 167 234 true).run Tryz.prog w = .ok (.tuple #[.agg #[.int .i64 0], .bool false]) w := by kernel_rfl
theorem tConst_const (v : Value) (w : World) : (Instr.typeAssert (.iface 236 v) 167 236 true).run Tryz.prog w = .ok (.tuple #[v, .bool true]) w := by kernel_rfl
theorem tConst_apply (v : Value) (w : World) : (Instr.typeAssert (.iface 238 v) 167 236 true).run Tryz.prog w = .ok (.tuple #[.agg #[.int .i32 0], .bool false]) w := by kernel_rfl
theorem thingText_any (t : Code.Thing) (v : Value) (w : World) (hv : ThingV w 0 t v) (hg : Code.NiceT t) (hi : TabI w) (ht : Tab w) :
  Calls Tryz.prog 81 #[v] w fun e w' => e = .returned (.string (bs (Code.wrT t))) /\ Below w.heap.size w w' := by
 cases t with
 | phi of =>
  obtain ⟨r, rfl, hr⟩ := hv
  have HA : Hid (∀ w1, Below w.heap.size w w1 -> Calls Tryz.prog 80 #[.string (bs [32, 118]), r] w1 fun e w' => e = .returned (.string (bs (Code.numb [32, 118] (Code.ofNats of)))) /\ Below w1.heap.size w1 w') := hide fun w1 h1 => numbered_any _ _ r w1 ((IntsAt.nats hr).below h1) (ofNats_in hg.2) (by have := hg.1; simp [Code.ofNats]; omega) (by decide) (hi.below h1)
  obtain ⟨p, c, rfl⟩ := own_slice hr
  have t1 := isPhi_phi
  have hNs := numbs_size [32, 118] of hg.2 hg.1 (by decide)
  clear hr hg hi ht
  simp only [Code.wrT]
  generalize Code.numb [32, 118] (Code.ofNats of) = N at *
  rw [<- bs_append]
  generalize bs N = Nb at *
  go_enter Tryz.func81, Tryz.ntmps81
  go_wp2_with fail
  generalize hw0 : w.alloc _ = w0
  have hb0 : Below w.heap.size w w0 := by rw [<- hw0]; exact below_al (Below.refl _ _) _
  clear hw0
  refine (HA.out w0 hb0).mono ?_
  rintro e w1 ⟨rfl, hb1⟩
  go_wp2
  go_ret
  exact ⟨rfl, hb0.trans (hb1.mono hb0.size)⟩
 | arg n =>
  have hv' : v = _ := hv
  subst hv'
  have t1 := isPhi_arg
  have t2 := tArg_arg
  simp only [Code.wrT]
  have HN := hide (one_in (x := n) hg)
  clear hv hg ht
  have HB := hide (numbered_one [97, 114, 103, 32] n HN.out (by decide))
  generalize Code.numb [97, 114, 103, 32] [(n : Int)] = N at *
  go_enter Tryz.func81, Tryz.ntmps81
  go_wp2_with fail
  refine (HB.out _ _ (by rw [alloc_size]) (hi.below (below_al (Below.refl _ _) _))).mono ?_
  rintro e w1 ⟨rfl, hb1⟩
  go_wp2
  go_ret
  exact ⟨rfl, unalB hb1⟩
 | const n =>
  have hv' : v = _ := hv
  subst hv'
  have t1 := isPhi_const
  have t2 := tArg_const
  have t3 := tConst_const
  simp only [Code.wrT]
  have hn : -2147483648 <= n /\ n < 2147483648 := hg
  have HN : Hid (-9223372036854775808 <= n /\ n <= 9223372036854775807) := hide (by omega)
  clear hv hg ht
  have HB := hide (numbered_one [99, 111, 110, 115, 116, 32] n HN.out (by decide))
  generalize Code.numb [99, 111, 110, 115, 116, 32] [n] = N at *
  go_enter Tryz.func81, Tryz.ntmps81
  go_wp2_with fail
  refine (HB.out _ _ (by rw [alloc_size]) (hi.below (below_al (Below.refl _ _) _))).mono ?_
  rintro e w1 ⟨rfl, hb1⟩
  go_wp2
  go_ret
  exact ⟨rfl, unalB hb1⟩
 | apply k of =>
  obtain ⟨r, rfl, hr⟩ := hv
  have h2 := Code.opOf_range k hg.1
  have HA : Hid (∀ w1, Below w.heap.size w w1 -> Calls Tryz.prog 80 #[.string (bs [32, 118]), r] w1 fun e w' => e = .returned (.string (bs (Code.numb [32, 118] (Code.ofNats of)))) /\ Below w1.heap.size w1 w') := hide fun w1 h1 => numbered_any _ _ r w1 ((IntsAt.nats hr).below h1) (ofNats_in hg.2.2) (by have := hg.2.1; simp [Code.ofNats]; omega) (by decide) (hi.below h1)
  have HO : Hid (∀ w1, Below w.heap.size w w1 -> Calls Tryz.prog 133 #[.int .i64 (k : Nat)] w1 fun e w' => e = .returned (.string (bs (Code.opName k))) /\ w' = w1) := hide fun w1 h1 => opName_any k w1 hg.1 (ht.below h1)
  obtain ⟨p, c, rfl⟩ := own_slice hr
  have t1 := isPhi_apply
  have t2 := tArg_apply
  have t3 := tConst_apply
  have t4 := isApply_apply
  have hNs := numbs_size [32, 118] of hg.2.2 (by have := hg.2.1; omega) (by decide)
  have hOs : (bs (Code.opName k)).size <= 10 := by rw [bs_size]; exact Code.opName_len k
  clear hr hg hi ht h2
  simp only [Code.wrT]
  generalize Code.numb [32, 118] (Code.ofNats of) = N at *
  generalize Code.opName k = O at *
  rw [<- bs_append]
  generalize bs N = Nb at *
  generalize bs O = Ob at *
  have hadd : Ob.size + Nb.size <= 9223372036854775807 := by omega
  clear hNs hOs
  go_enter Tryz.func81, Tryz.ntmps81
  go_wp2_with fail
  generalize hw0 : w.alloc _ = w0
  have hb0 : Below w.heap.size w w0 := by rw [<- hw0]; exact below_al (Below.refl _ _) _
  have hx0 : w0.heap[w.heap.size]? = some (.cells #[.int .i64 (k : Nat), .slice p of.length c] 238) := by rw [<- hw0]; exact heap_alloc_new w _
  clear hw0
  have hS : w0.drew.heap[w.heap.size]? = some (.cells #[.int .i64 (k : Nat), .slice p of.length c] 238) := hx0
  refine wp_region_held_drew (S := fun w' => w'.heap[w.heap.size]? = some (.cells #[.int .i64 (k : Nat), .slice p of.length c] 238)) (by kernel_rfl) hx0 (fun hHeld => ?_)
  have hbd : Below w.heap.size w w0.drew := hb0.drew
  generalize w0.drew = wd at *
  clear hx0 hHeld hb0
  refine wpAnyH_take (i := 0) (v := .pointer (some ⟨w.heap.size, 0, none⟩)) rfl (by kernel_rfl) (by kernel_rfl) (by kernel_rfl) (fun _ _ _ h => h) (Or.inl ⟨by rfl, fun w' h => by  go_simp⟩) hS ?_
  try simp only [Act.put, zz]
  refine wpAnyH_take (i := 1) (v := .int .i64 (k : Nat)) rfl (by kernel_rfl) (by kernel_rfl) (by kernel_rfl) (fun _ _ _ h => h) (Or.inl ⟨by rfl, fun w' h => by have r0 := blk_cell h 0 _ rfl; go_simp⟩) hS ?_
  try simp only [Act.put, zz]
  refine wpAnyH_take (i := 3) (v := .pointer (some ⟨w.heap.size, 1, none⟩)) rfl (by kernel_rfl) (by kernel_rfl) (by kernel_rfl) (fun _ _ _ h => h) (Or.inl ⟨by rfl, fun w' h => by  go_simp⟩) hS ?_
  try simp only [Act.put, zz]
  refine wpAnyH_take (i := 4) (v := .slice p of.length c) rfl (by kernel_rfl) (by kernel_rfl) (by kernel_rfl) (fun _ _ _ h => h) (Or.inl ⟨by rfl, fun w' h => by have r0 := blk_cell h 1 _ rfl; go_simp⟩) hS ?_
  try simp only [Act.put, zz]
  refine wpAnyH_ready (rs := [2]) (by kernel_rfl) (by simp) ?_
  refine AllReadyH.cons rfl (fun K hK => ?_) AllReadyH.nil
  rw [if_pos (by rfl)]
  go_wp2_with fail
  refine (HO.out _ hbd).mono ?_
  rintro e w1 ⟨rfl, rfl⟩
  refine hK.out _ _ hS (fun hHeld => ?_)
  clear hK K
  try simp only [Act.put, zz]
  refine wpAnyH_ready (rs := [5]) (by kernel_rfl) (by simp) ?_
  refine AllReadyH.cons rfl (fun K hK => ?_) AllReadyH.nil
  rw [if_pos (by rfl)]
  go_wp2_with fail
  refine (HA.out _ hbd).mono ?_
  rintro e w2 ⟨rfl, hb2⟩
  have hS2 := (hb2.block _ (lt_of_block hS)).trans hS
  refine hK.out _ _ hS2 (fun hHeld => ?_)
  clear hK K
  try simp only [Act.put, zz]
  refine wpAnyH_take (i := 6) (v := .string (Ob ++ Nb)) rfl (by kernel_rfl) (by kernel_rfl) (by kernel_rfl) (fun _ _ _ h => h) (Or.inl ⟨by rfl, fun w' h => by  go_simp⟩) hS2 ?_
  try simp only [Act.put, zz]
  refine wpAnyH_take (i := 7) (v := .string (Ob ++ Nb)) rfl (by kernel_rfl) (by kernel_rfl) (by kernel_rfl) (fun _ _ _ h => h) (Or.inl ⟨by rfl, fun w' h => by  go_simp⟩) hS2 ?_
  try simp only [Act.put, zz]
  refine wpAnyH_done (by kernel_rfl) ?_ _
  go_wp2
  go_ret
  exact ⟨rfl, hbd.trans (hb2.mono hbd.size)⟩
end Go.Proofs.YtedkjanogjglkaaGreatDoor
