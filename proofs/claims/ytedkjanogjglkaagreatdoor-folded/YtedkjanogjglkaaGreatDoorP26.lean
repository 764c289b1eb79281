/-
  Parts of the proof: SdOne, SdStep, CEval, CCheck, CTexts, CLoops, CEnds, SdRun.
-/
import Derived.Test.YtedkjanogjglkaaGreatDoorP22
import Derived.Test.YtedkjanogjglkaaGreatDoorP21
import Derived.Test.YtedkjanogjglkaaGreatDoorP25
import Derived.KernelRfl
import Derived.Lib.ItoaMem
set_option maxRecDepth 100000
namespace Go.Proofs.YtedkjanogjglkaaGreatDoor
open Go.RowKit
open Go.Proofs.YtedkjanogjglkaaGreatDoor.Code (RTree Nm CRule Pair)
namespace Code
def Line (S : Nat -> Prop) : List Val -> Prop
 | [] => True
 | v :: l => (∀ x ∈ allUses v.thing, S x) /\ Line (fun x => S x \/ x = v.num) l
theorem Line.mono : ∀ {l : List Val} {S T : Nat -> Prop}, (∀ x, S x -> T x) -> Line S l -> Line T l
 | [], _, _, _, _ => trivial
 | _ :: _, _, _, h, hl => ⟨fun x hx => h x (hl.1 x hx), Line.mono (fun x hx => hx.imp (h x) id) hl.2⟩
theorem line_app : ∀ {a b : List Val} {S : Nat -> Prop}, Line S (a ++ b) ↔ Line S a /\ Line (fun x => S x \/ x ∈ a.map Val.num) b
 | [], b, S => ⟨fun h => ⟨trivial, h.mono fun _ h => Or.inl h⟩, fun h => h.2.mono fun _ h => h.elim id (fun h => by cases h)⟩
 | v :: a, b, S => by
  have ih := line_app (a := a) (b := b) (S := fun x => S x \/ x = v.num)
  refine ⟨fun h => ⟨⟨h.1, (ih.1 h.2).1⟩, (ih.1 h.2).2.mono fun x hx => ?_⟩, fun h => ⟨h.1.1, ih.2 ⟨h.1.2, h.2.mono fun x hx => ?_⟩⟩⟩
  ·simp only [List.map_cons, List.mem_cons]
   rcases hx with (hx | hx) | hx
   ·exact Or.inl hx
   ·exact Or.inr (Or.inl hx)
   ·exact Or.inr (Or.inr hx)
  ·simp only [List.map_cons, List.mem_cons] at hx
   rcases hx with hx | hx | hx
   ·exact Or.inl (Or.inl hx)
   ·exact Or.inl (Or.inr hx)
   ·exact Or.inr hx
theorem Line.mem : ∀ {l : List Val} {S : Nat -> Prop}, Line S l -> ∀ v ∈ l, ∀ x ∈ allUses v.thing, S x \/ x ∈ l.map Val.num
 | u :: l, S, h, v, hv, x, hx => by
  rw [List.map_cons, List.mem_cons]
  rcases List.mem_cons.1 hv with rfl | hv
  ·exact Or.inl (h.1 x hx)
  ·rcases Line.mem h.2 v hv x hx with (h | h) | h
   ·exact Or.inl h
   ·exact Or.inr (Or.inl h)
   ·exact Or.inr (Or.inr h)
theorem Line.filter {keep : Val -> Bool} : ∀ {l : List Val} {S T : Nat -> Prop}, Line S l -> (∀ v ∈ l, keep v = true -> ∀ x ∈ allUses v.thing, (S x -> T x) /\ ∀ u ∈ l, u.num = x -> keep u = true) -> Line T (l.filter keep)
 | [], _, _, _, _ => trivial
 | v :: l, S, T, h, hk => by
  rw [List.filter_cons]
  by_cases hv : keep v = true
  ·rw [if_pos hv]
   refine ⟨fun x hx => (hk v (List.mem_cons_self ..) hv x hx).1 (h.1 x hx), h.2.filter fun u hu hku x hx => ⟨?_, fun z hz => (hk u (List.mem_cons_of_mem _ hu) hku x hx).2 z (List.mem_cons_of_mem _ hz)⟩⟩
   exact fun e => e.imp (hk u (List.mem_cons_of_mem _ hu) hku x hx).1 id
  ·rw [if_neg hv]
   refine h.2.filter fun u hu hku x hx => ⟨?_, fun z hz => (hk u (List.mem_cons_of_mem _ hu) hku x hx).2 z (List.mem_cons_of_mem _ hz)⟩
   rintro (e | e)
   ·exact (hk u (List.mem_cons_of_mem _ hu) hku x hx).1 e
   ·exact absurd ((hk u (List.mem_cons_of_mem _ hu) hku x hx).2 v (List.mem_cons_self ..) e.symm) hv
def evalT (A : List Int) (σ : Nat -> Int) : Thing -> Option Int
 | .phi _ => none
 | .arg n => some (wrap32 (A.getD n 0))
 | .const c => some c
 | .apply k of => reckon k (σ (of.getD 0 0)) (σ (of.getD (of.length - 1) 0))
theorem ends_mem {of : List Nat} (h : 0 < of.length) : of.getD 0 0 ∈ of /\ of.getD (of.length - 1) 0 ∈ of := by
 constructor
 ·rw [List.getD_eq_getElem?_getD, List.getElem?_eq_getElem h]; exact List.getElem_mem h
 ·rw [List.getD_eq_getElem?_getD, List.getElem?_eq_getElem (by omega)]; exact List.getElem_mem (by omega)
theorem evalT_same {a : Nat} {A : List Int} {σ τ : Nat -> Int} {t : Thing} (hg : GoodT a t) (h : ∀ x ∈ allUses t, τ x = σ x) : evalT A τ t = evalT A σ t := by
 cases t with
 | apply k of =>
  obtain ⟨h1, h2⟩ := ends_mem (good_ne hg k of rfl)
  simp only [evalT]
  rw [h _ h1, h _ h2]
 | _ => rfl
theorem evalT_ren {a n m : Nat} {A : List Int} {σ : Nat -> Int} {t : Thing} (hg : GoodT a t) (h : σ m = σ n) : evalT A σ (renT n m t) = evalT A σ t := by
 cases t with
 | apply k of =>
  have h0 := good_ne hg k of rfl
  have hr : ∀ x, σ (renN n m x) = σ x := fun x => by
   unfold renN
   split
   ·rename_i e; rw [h, e]
   ·rfl
  have hd : ∀ i, i < of.length -> (of.map (renN n m)).getD i 0 = renN n m (of.getD i 0) := fun i hi => by
   rw [List.getD_eq_getElem?_getD, List.getD_eq_getElem?_getD, List.getElem?_map, List.getElem?_eq_getElem hi]; rfl
  simp only [renT, evalT, List.length_map]
  rw [hd 0 h0, hd _ (by omega), hr, hr]
 | _ => rfl
def HoldsV (t : Bool) (A : List Int) (σ : Nat -> Int) (v : Val) : Prop := evalT A σ v.thing = some (σ v.num) \/ (t = true /\ isDivT v.thing = true /\ evalT A σ v.thing = none)
theorem HoldsV.plain {t : Bool} {A : List Int} {σ : Nat -> Int} {v : Val} (h : HoldsV t A σ v) (hd : isDivT v.thing = false) : evalT A σ v.thing = some (σ v.num) := by
 rcases h with h | ⟨_, h, _⟩
 ·exact h
 ·rw [hd] at h; cases h
structure Ok1 (a : Nat) (A : List Int) (t d : Bool) (σ : Nat -> Int) (vs : List Val) (r : Nat) : Prop where
 once : (vs.map Val.num).Nodup
 line : Line (fun _ => False) vs
 good : ∀ v ∈ vs, v.num < 60 /\ GoodT a v.thing
 holds : ∀ v ∈ vs, HoldsV t A σ v
 last : r ∈ vs.map Val.num
 trap : t = true -> ∃ v ∈ vs, isDivT v.thing = true /\ evalT A σ v.thing = none
 rng : ∀ n, -2147483648 <= σ n /\ σ n < 2147483648
 nod : d = true -> ∀ v ∈ vs, isDivT v.thing = false
theorem things_mem {vs : List Val} {z : Last} {n : Nat} {t : Thing} (h : things [⟨vs, z⟩] n = some t) : ∃ u ∈ vs, u.num = n /\ u.thing = t := by
 unfold things at h
 rw [Option.map_eq_some_iff] at h
 obtain ⟨u, hu, rfl⟩ := h
 rw [List.flatMap_cons, List.flatMap_nil, List.append_nil] at hu
 exact ⟨u, List.mem_of_find?_eq_some hu, by simpa using List.find?_some hu, rfl⟩
theorem div_not {k : Nat} {of : List Nat} (h : k ≠ 3) : isDivT (.apply k of) = false := by
 unfold isDivT
 split
 ·rename_i e
  simp only [Thing.apply.injEq] at e
  exact absurd e.1 h
 ·rfl
theorem Ok1.env {a : Nat} {Ar : List Int} {t d : Bool} {σ : Nat -> Int} {A B : List Val} {v : Val} {r : Nat} {z : Last} (h : Ok1 a Ar t d σ (A ++ v :: B) r) : Env (things [⟨A ++ v :: B, z⟩]) σ (fun x => x ∈ A.map Val.num) where
 app := fun n k of hn hk => by
  obtain ⟨u, hu, rfl, e⟩ := things_mem hn
  have := (h.holds u hu).plain (by rw [e]; exact div_not hk)
  rw [e] at this
  exact this
 con := fun n c hn => by
  obtain ⟨u, hu, rfl, e⟩ := things_mem hn
  have := (h.holds u hu).plain (by rw [e]; rfl)
  rw [e] at this
  simp only [evalT, Option.some.injEq] at this
  exact this.symm
 len := fun n k of hn => by
  obtain ⟨u, hu, rfl, e⟩ := things_mem hn
  have := (h.good u hu).2
  rw [e] at this
  exact ⟨this.1, this.2.1⟩
 dn := fun n k of hS hn x hx => by
  obtain ⟨u, hu, rfl⟩ := List.mem_map.1 hS
  have hone : OnceN [⟨A ++ v :: B, z⟩] := by
   unfold OnceN
   rw [List.flatMap_cons, List.flatMap_nil, List.append_nil]
   exact h.once
  have hth := things_at hone (List.mem_singleton.2 rfl) (show u ∈ A ++ v :: B from List.mem_append_left _ hu)
  rw [hn, Option.some.injEq] at hth
  have := (line_app.1 h.line).1.mem u hu x (by rw [<- hth]; exact hx)
  exact this.elim (fun h => h.elim) id
theorem Ok1.uses {a : Nat} {Ar : List Int} {t d : Bool} {σ : Nat -> Int} {A B : List Val} {v : Val} {r : Nat} {z : Last} (h : Ok1 a Ar t d σ (A ++ v :: B) r) {j : Nat} {of : List Nat} (hn : things [⟨A ++ v :: B, z⟩] v.num = some (.apply j of)) : v.thing = .apply j of /\ ∀ x ∈ of, x ∈ A.map Val.num := by
 have hone : OnceN [⟨A ++ v :: B, z⟩] := by
  unfold OnceN
  rw [List.flatMap_cons, List.flatMap_nil, List.append_nil]
  exact h.once
 have hth := things_at hone (List.mem_singleton.2 rfl) (show v ∈ A ++ v :: B from List.mem_append_right _ (List.mem_cons_self ..))
 rw [hn, Option.some.injEq] at hth
 refine ⟨hth.symm, fun x hx => ?_⟩
 have := (line_app.1 h.line).2.1 x (by rw [<- hth]; exact hx)
 exact this.elim (fun h => h.elim) id
theorem Ok1.put {a : Nat} {Ar : List Int} {t d : Bool} {σ τ : Nat -> Int} {A B L : List Val} {v : Val} {T : Thing} {r : Nat} (h : Ok1 a Ar t d σ (A ++ v :: B) r) (hv : isDivT v.thing = false) (hτ : ∀ x ∈ (A ++ v :: B).map Val.num, τ x = σ x) (hin : ∀ n, -2147483648 <= τ n /\ τ n < 2147483648)
  (hL : ∀ u ∈ L, u.num < 60 /\ GoodT a u.thing /\ u.num ∉ (A ++ v :: B).map Val.num /\ HoldsV t Ar τ u /\ isDivT u.thing = false) (hLn : (L.map Val.num).Nodup) (hl : Line (fun x => x ∈ A.map Val.num) (L ++ [⟨v.num, T⟩])) (hT : GoodT a T) (hTd : isDivT T = false) (hH : HoldsV t Ar τ ⟨v.num, T⟩) : Ok1 a Ar t d τ (A ++ (L ++ [⟨v.num, T⟩]) ++ B) r := by
 have hvm : v ∈ A ++ v :: B := List.mem_append_right _ (List.mem_cons_self ..)
 have hev : ∀ u ∈ A ++ v :: B, evalT Ar τ u.thing = evalT Ar σ u.thing := fun u hu => evalT_same (h.good u hu).2 (fun x hx => hτ x ((h.line.mem u hu x hx).elim (fun h => h.elim) id))
 have hold : ∀ u ∈ A ++ v :: B, HoldsV t Ar τ u := fun u hu => by
  have h1 := h.holds u hu
  unfold HoldsV at h1 ⊢
  rw [hev u hu, hτ u.num (List.mem_map_of_mem hu)]
  exact h1
 have hcase : ∀ u : Val, u ∈ A ++ (L ++ [(⟨v.num, T⟩ : Val)]) ++ B -> u ∈ A ++ v :: B \/ u ∈ L \/ u = ⟨v.num, T⟩ := fun u hu => by
  simp only [List.mem_append, List.mem_cons, List.not_mem_nil, or_false] at hu ⊢
  rcases hu with (hu | hu | hu) | hu
  ·exact Or.inl (Or.inl hu)
  ·exact Or.inr (Or.inl hu)
  ·exact Or.inr (Or.inr hu)
  ·exact Or.inl (Or.inr (Or.inr hu))
 obtain ⟨l1, l2⟩ := line_app.1 h.line
 have hnum : ∀ x ∈ (A ++ v :: B).map Val.num, x ∈ (A ++ (L ++ [(⟨v.num, T⟩ : Val)]) ++ B).map Val.num := fun x hx => by
  simp only [List.map_append, List.map_cons, List.map_nil, List.mem_append, List.mem_cons, List.not_mem_nil, or_false] at hx ⊢
  rcases hx with hx | hx | hx
  ·exact Or.inl (Or.inl hx)
  ·exact Or.inl (Or.inr (Or.inr hx))
  ·exact Or.inr hx
 refine ⟨?_, ?_, fun u hu => ?_, fun u hu => ?_, hnum r h.last, fun ht => ?_, hin, fun hd u hu => ?_⟩
 ·have h1 := h.once
  rw [List.map_append, List.map_cons] at h1
  rw [List.map_append, List.map_append]
  refine nodup_put h1 ?_ ?_
  ·rw [List.map_append, List.nodup_append]
   refine ⟨hLn, by simp, fun x hx y hy e => ?_⟩
   simp only [List.map_cons, List.map_nil, List.mem_cons, List.not_mem_nil, or_false] at hy
   obtain ⟨u, hu, rfl⟩ := List.mem_map.1 hx
   exact (hL u hu).2.2.1 (by rw [e, hy]; exact List.mem_map_of_mem hvm)
  ·intro n hn
   simp only [List.map_append, List.map_cons, List.map_nil, List.mem_append, List.mem_cons, List.not_mem_nil, or_false] at hn
   rcases hn with hn | hn
   ·obtain ⟨u, hu, rfl⟩ := List.mem_map.1 hn
    have := (hL u hu).2.2.1
    rw [List.map_append, List.map_cons] at this
    exact Or.inr this
   ·exact Or.inl hn
 ·rw [line_app, line_app]
  refine ⟨⟨l1, hl.mono fun x hx => Or.inr hx⟩, l2.2.mono fun x hx => ?_⟩
  rcases hx with (hx | hx) | hx
  ·exact hx.elim
  ·exact Or.inr (by rw [List.map_append]; exact List.mem_append_left _ hx)
  ·exact Or.inr (by rw [List.map_append, List.map_append]; exact List.mem_append_right _ (List.mem_append_right _ (by rw [hx]; exact List.mem_singleton.2 rfl)))
 ·rcases hcase u hu with hu | hu | rfl
  ·exact h.good u hu
  ·exact ⟨(hL u hu).1, (hL u hu).2.1⟩
  ·exact ⟨(h.good v hvm).1, hT⟩
 ·rcases hcase u hu with hu | hu | rfl
  ·exact hold u hu
  ·exact (hL u hu).2.2.2.1
  ·exact hH
 ·obtain ⟨u, hu, hd, hn⟩ := h.trap ht
  refine ⟨u, ?_, hd, by rw [hev u hu]; exact hn⟩
  simp only [List.mem_append, List.mem_cons] at hu ⊢
  rcases hu with hu | rfl | hu
  ·exact Or.inl (Or.inl hu)
  ·rw [hv] at hd; cases hd
  ·exact Or.inr hu
 ·rcases hcase u hu with hu | hu | rfl
  ·exact h.nod hd u hu
  ·exact (hL u hu).2.2.2.2
  ·exact hTd
theorem uses_ren {n m x : Nat} {t : Thing} (h : x ∈ allUses (renT n m t)) : ∃ y ∈ allUses t, x = renN n m y := by
 cases t with
 | phi of => obtain ⟨y, hy, e⟩ := List.mem_map.1 h; exact ⟨y, hy, e.symm⟩
 | apply k of => obtain ⟨y, hy, e⟩ := List.mem_map.1 h; exact ⟨y, hy, e.symm⟩
 | arg _ => cases h
 | const _ => cases h
theorem isDiv_ren (n m : Nat) (t : Thing) : isDivT (renT n m t) = isDivT t := by
 cases t with
 | apply k of =>
  by_cases hk : k = 3
  ·subst hk; rfl
  ·rw [renT, div_not hk, div_not hk]
 | _ => rfl
theorem Line.ren {n m : Nat} : ∀ {l : List Val} {S T : Nat -> Prop}, Line S l -> (∀ x, S x -> T (renN n m x)) -> n ∉ l.map Val.num -> Line T (l.map fun v => ⟨v.num, renT n m v.thing⟩)
 | [], _, _, _, _, _ => trivial
 | v :: l, S, T, h, hs, hn => by
  rw [List.map_cons, List.mem_cons, not_or] at hn
  refine ⟨fun x hx => ?_, h.2.ren (fun x hx => ?_) hn.2⟩
  ·obtain ⟨y, hy, rfl⟩ := uses_ren hx
   exact hs y (h.1 y hy)
  ·rcases hx with hx | rfl
   ·exact Or.inl (hs x hx)
   ·refine Or.inr ?_
    unfold renN
    rw [if_neg (fun e => hn.1 e.symm)]
theorem Ok1.cut {a : Nat} {Ar : List Int} {t d : Bool} {σ : Nat -> Int} {A B : List Val} {v : Val} {r y : Nat} (h : Ok1 a Ar t d σ (A ++ v :: B) r) (hv : isDivT v.thing = false) (hy : y ∈ A.map Val.num) (he : σ y = σ v.num) : Ok1 a Ar t d σ ((A ++ [] ++ B).map fun u : Val => ⟨u.num, renT v.num y u.thing⟩) (renN v.num y r) /\ σ (renN v.num y r) = σ r := by
 rw [List.append_nil]
 have hsub : ∀ u ∈ A ++ B, u ∈ A ++ v :: B := fun u hu => by
  rcases List.mem_append.1 hu with hu | hu
  ·exact List.mem_append_left _ hu
  ·exact List.mem_append_right _ (List.mem_cons_of_mem _ hu)
 have hnums : ((A ++ B).map fun u => (⟨u.num, renT v.num y u.thing⟩ : Val)).map Val.num = (A ++ B).map Val.num := by rw [List.map_map]; rfl
 have hsl : ((A ++ B).map Val.num).Sublist ((A ++ v :: B).map Val.num) := (List.Sublist.append (List.Sublist.refl A) (List.sublist_cons_self v B)).map _
 have honce := h.once
 rw [List.map_append, List.map_cons, List.nodup_append, List.nodup_cons] at honce
 obtain ⟨_, ⟨hB, _⟩, hAB⟩ := honce
 have hA : v.num ∉ A.map Val.num := fun hm => hAB v.num hm v.num (List.mem_cons_self ..) rfl
 obtain ⟨l1, l2⟩ := line_app.1 h.line
 refine ⟨⟨by rw [hnums]; exact h.once.sublist hsl, ?_, fun u' hu' => ?_, fun u' hu' => ?_, ?_, fun ht => ?_, h.rng, fun hd u' hu' => ?_⟩, ?_⟩
 ·rw [List.map_append, line_app]
  refine ⟨l1.ren (fun _ h => h.elim) hA, l2.2.ren (fun x hx => Or.inr ?_) hB⟩
  rw [List.map_map, show (Val.num ∘ fun u : Val => (⟨u.num, renT v.num y u.thing⟩ : Val)) = Val.num from rfl]
  unfold renN
  split
  ·exact hy
  ·rename_i hne
   rcases hx with (hx | hx) | hx
   ·exact hx.elim
   ·exact hx
   ·exact absurd hx hne
 ·obtain ⟨u, hu, rfl⟩ := List.mem_map.1 hu'
  obtain ⟨g1, g2⟩ := h.good u (hsub u hu)
  refine ⟨g1, ?_⟩
  have hy60 : y < 60 := by
   obtain ⟨q, hq, rfl⟩ := List.mem_map.1 hy
   exact (h.good q (List.mem_append_left _ hq)).1
  obtain ⟨n, th⟩ := u
  cases th with
  | apply k of =>
   refine ⟨g2.1, by rw [List.length_map]; exact g2.2.1, fun x hx => ?_⟩
   obtain ⟨z, hz, rfl⟩ := List.mem_map.1 hx
   unfold renN
   split
   ·exact hy60
   ·exact g2.2.2 z hz
  | _ => exact g2
 ·obtain ⟨u, hu, rfl⟩ := List.mem_map.1 hu'
  have := h.holds u (hsub u hu)
  unfold HoldsV at this ⊢
  rw [evalT_ren (h.good u (hsub u hu)).2 he, isDiv_ren]
  exact this
 ·rw [hnums]
  have hr := h.last
  simp only [List.map_append, List.map_cons, List.mem_append, List.mem_cons] at hr ⊢
  unfold renN
  split
  ·exact Or.inl hy
  ·rename_i hne
   rcases hr with hr | hr | hr
   ·exact Or.inl hr
   ·exact absurd hr hne
   ·exact Or.inr hr
 ·obtain ⟨u, hu, hd, hn⟩ := h.trap ht
  have : u ∈ A ++ B := by
   simp only [List.mem_append, List.mem_cons] at hu ⊢
   rcases hu with hu | rfl | hu
   ·exact Or.inl hu
   ·rw [hv] at hd; cases hd
   ·exact Or.inr hu
  exact ⟨_, List.mem_map_of_mem this, by rw [isDiv_ren]; exact hd, by rw [evalT_ren (h.good u (hsub u this)).2 he]; exact hn⟩
 ·obtain ⟨u, hu, rfl⟩ := List.mem_map.1 hu'
  rw [isDiv_ren]
  exact h.nod hd u (hsub u hu)
 ·unfold renN
  split
  ·rename_i e; rw [he, e]
  ·rfl
end Code
namespace Code
theorem used_one {vs : List Val} {r n : Nat} : usedB [⟨vs, .ret r⟩] n = true ↔ (∃ v ∈ vs, n ∈ allUses v.thing) \/ n = r := by
 unfold usedB
 rw [List.flatMap_cons, List.flatMap_nil, List.append_nil, List.contains_iff_mem]
 unfold usesB
 rw [List.mem_append, List.mem_flatMap]
 exact or_congr Iff.rfl List.mem_singleton
theorem Ok1.sweep1 {a : Nat} {Ar : List Int} {t d : Bool} {σ : Nat -> Int} {vs : List Val} {r : Nat} (h : Ok1 a Ar t d σ vs r) : Ok1 a Ar t d σ (vs.filter (keepsV [⟨vs, .ret r⟩])) r where
 once := h.once.sublist (List.filter_sublist.map _)
 line := h.line.filter fun v hv _ x hx => ⟨id, fun u _ e => by
  unfold keepsV
  rw [used_one.2 (Or.inl ⟨v, hv, by rw [e]; exact hx⟩)]; rfl⟩
 good := fun v hv => h.good v (List.mem_filter.1 hv).1
 holds := fun v hv => h.holds v (List.mem_filter.1 hv).1
 last := by
  obtain ⟨u, hu, e⟩ := List.mem_map.1 h.last
  refine List.mem_map.2 ⟨u, List.mem_filter.2 ⟨hu, ?_⟩, e⟩
  unfold keepsV
  rw [used_one.2 (Or.inr e)]; rfl
 trap := fun ht => by
  obtain ⟨u, hu, e⟩ := h.trap ht
  refine ⟨u, List.mem_filter.2 ⟨hu, ?_⟩, e⟩
  unfold keepsV
  rw [e.1, Bool.or_true]
 rng := h.rng
 nod := fun hd v hv => h.nod hd v (List.mem_filter.1 hv).1
theorem Ok1.sweepF {a : Nat} {Ar : List Int} {t d : Bool} {σ : Nat -> Int} {r : Nat} : ∀ (n : Nat) {vs : List Val}, Ok1 a Ar t d σ vs r -> ∃ vs', sweepF n [⟨vs, .ret r⟩] = [⟨vs', .ret r⟩] /\ Ok1 a Ar t d σ vs' r
 | 0, vs, h => ⟨vs, rfl, h⟩
 | n + 1, vs, h => by
  have e : Code.sweep1 [⟨vs, .ret r⟩] = [⟨vs.filter (keepsV [⟨vs, .ret r⟩]), .ret r⟩] := rfl
  rw [Code.sweepF, e]
  split
  ·exact ⟨_, rfl, h.sweep1⟩
  ·exact Ok1.sweepF n h.sweep1
theorem row_parts {vs : List Val} {k : Nat} {v : Val} (h : vs[k]? = some v) : vs = vs.take k ++ v :: vs.drop (k + 1) := by
 obtain ⟨hk, rfl⟩ := List.getElem?_eq_some_iff.1 h
 rw [<- List.drop_eq_getElem_cons hk, List.take_append_drop]
theorem ok1_step {a : Nat} {Ar : List Int} {t d : Bool} {σ : Nat -> Int} {vs : List Val} {r : Nat} (h : Ok1 a Ar t d σ vs r) {p : Pair} {n : List Blk} (hp : p ∈ pairs stdRules [⟨vs, .ret r⟩]) (hs : stepR a [⟨vs, .ret r⟩] p = some n) :
  ∃ vs' r' σ', n = [⟨vs', .ret r'⟩] /\ Ok1 a Ar t d σ' vs' r' /\ σ' r' = σ r /\ (wrF a n).length <= 1500 := by
 obtain ⟨hR, b, v, kn, hb, hv, hk⟩ := mem_pairs hp
 unfold stepR at hs
 rw [hb, Option.bind_some, hv, Option.bind_some, hk, Option.bind_some, Option.filter_eq_some_iff] at hs
 obtain ⟨hst, hlen⟩ := hs
 have hlen := of_decide_eq_true hlen
 obtain ⟨hb0, rfl⟩ : p.block = 0 /\ b = ⟨vs, .ret r⟩ := by
  cases hq : p.block with
  | zero => rw [hq] at hb; simpa [eq_comm] using hb
  | succ i => rw [hq] at hb; simp at hb
 have hparts := row_parts (show vs[p.index]? = some v from hv)
 have hput : ∀ L, putB p.block p.index L [⟨vs, .ret r⟩] = [⟨vs.take p.index ++ L ++ vs.drop (p.index + 1), .ret r⟩] := fun L => by
  rw [hb0]; rfl
 generalize vs.take p.index = A at *
 generalize vs.drop (p.index + 1) = B at *
 subst hparts
 have he := h.env (z := .ret r)
 obtain ⟨⟨k, l, hnode, hk3⟩, hkn, hres⟩ := std_res he h.rng (fun j of hj x hx => (h.uses hj).2 x hx) hR hk
 have hdiv : isDivT v.thing = false := by
  rw [hnode] at hk
  obtain ⟨of, hof⟩ := fits_op hk
  rw [(h.uses hof).1]
  exact div_not hk3
 have hky : ∀ {w y}, lookK kn w = some y -> knownV kn w = y /\ y ∈ A.map Val.num := fun {w y} hw => by
  refine ⟨by unfold knownV; rw [hw]; rfl, ?_⟩
  unfold lookK at hw
  rw [Option.map_eq_some_iff] at hw
  obtain ⟨q, hq, rfl⟩ := hw
  exact hkn q (List.mem_of_find?_eq_some hq)
 have h60 : ∀ {y}, y ∈ A.map Val.num -> y < 60 := fun {y} hy => by
  obtain ⟨q, hq, rfl⟩ := List.mem_map.1 hy
  exact (h.good q (List.mem_append_left _ hq)).1
 have hnr : ¬ noRoom [⟨A ++ v :: B, .ret r⟩] p kn := fun hn => by rw [stepB1_room hn] at hst; cases hst
 rw [stepB1_is hnr, Option.some.injEq] at hst
 suffices hsuff : ∃ vs' r' σ', stepI [⟨A ++ v :: B, .ret r⟩] p v.num kn = [⟨vs', .ret r'⟩] /\ Ok1 a Ar t d σ' vs' r' /\ σ' r' = σ r by
  obtain ⟨vs', r', σ', e1, e2, e3⟩ := hsuff
  rw [e1] at hst
  obtain ⟨vs2, e4, e5⟩ := e2.sweepF (countB [⟨vs', .ret r'⟩] + 1)
  exact ⟨vs2, r', σ', hst.symm.trans e4, e5, e3, hlen⟩
 have hcon : ∀ c, c = σ v.num -> Ok1 a Ar t d σ (A ++ ([] ++ [⟨v.num, .const c⟩]) ++ B) r := fun c hc => by
  subst hc
  refine h.put hdiv (fun _ _ => rfl) h.rng (fun u hu => by cases hu) (by simp) ⟨(fun x hx => by cases hx), trivial⟩ (h.rng v.num) rfl (Or.inl rfl)
 unfold noRoom at hnr
 unfold stepI
 generalize p.rule.result = R at *
 cases hres with
 | name hw hσ =>
  obtain ⟨e1, e2⟩ := hky hw
  simp only [e1, hput]
  obtain ⟨o1, o2⟩ := h.cut hdiv e2 hσ
  exact ⟨_, _, σ, rfl, o1, o2⟩
 | num hd =>
  simp only [mkThing, hput, numR]
  exact ⟨_, _, σ, rfl, hcon _ hd, rfl⟩
 | fold hd =>
  simp only [mkThing, hput]
  exact ⟨_, _, σ, rfl, hcon _ hd, rfl⟩
 | @op1 k w y hw h13 hk3 hop hrk =>
  obtain ⟨e1, e2⟩ := hky hw
  simp only [mkThing, hput, mkAll, mkVal, e1]
  refine ⟨_, _, σ, rfl, h.put hdiv (fun _ _ => rfl) h.rng (fun u hu => by cases hu) (by simp) ⟨fun x hx => ?_, trivial⟩ ⟨h13, hop.symm, fun x hx => ?_⟩ (div_not hk3) ?_, rfl⟩
  ·rw [List.mem_singleton.1 hx]; exact e2
  ·rw [List.mem_singleton.1 hx]; exact h60 e2
  ·exact Or.inl hrk
 | @op2 k w y d hw h13 hk3 hop hd hrk =>
  obtain ⟨e1, e2⟩ := hky hw
  have hfr : freeFrom (things [⟨A ++ v :: B, .ret r⟩]) 0 < 60 := by
   have := Nat.not_lt.1 fun hl => hnr ⟨(fun w hw => by cases hw), hl⟩
   simp only [mkThing, mkAll, mkVal, Mk.put] at this
   omega
  have hfn := freeFrom_none _ _ hfr
  simp only [mkThing, hput, mkAll, mkVal, e1, Mk.put, numR]
  generalize freeFrom (things [⟨A ++ v :: B, .ret r⟩]) 0 = f at *
  have hnot : f ∉ (A ++ v :: B).map Val.num := fun hm => by
   obtain ⟨u, hu, e⟩ := List.mem_map.1 hm
   unfold things at hfn
   rw [List.flatMap_cons, List.flatMap_nil, List.append_nil, Option.map_eq_none_iff, List.find?_eq_none] at hfn
   exact hfn u hu (by simpa using e)
  have hne : ∀ x ∈ (A ++ v :: B).map Val.num, (if x = f then d else σ x) = σ x := fun x hx => if_neg fun e => hnot (by rw [<- e]; exact hx)
  have hyv : y ∈ (A ++ v :: B).map Val.num := by rw [List.map_append]; exact List.mem_append_left _ e2
  refine ⟨_, _, fun x => if x = f then d else σ x, rfl, h.put hdiv hne ?_ ?_ (by simp) ⟨(fun x hx => by cases hx), fun x hx => ?_, trivial⟩ ⟨h13, hop.symm, fun x hx => ?_⟩ (div_not hk3) ?_, hne r h.last⟩
  ·intro n
   show -2147483648 <= (if n = f then d else σ n) /\ (if n = f then d else σ n) < 2147483648
   split
   ·exact hd
   ·exact h.rng n
  ·intro u hu
   rw [List.nil_append, List.mem_singleton] at hu
   subst hu
   exact ⟨hfr, hd, hnot, Or.inl (by simp only [evalT, if_true]), rfl⟩
  ·simp only [allUses, List.mem_cons, List.not_mem_nil, or_false] at hx
   rcases hx with rfl | rfl
   ·exact Or.inl e2
   ·exact Or.inr rfl
  ·simp only [List.mem_cons, List.not_mem_nil, or_false] at hx
   rcases hx with rfl | rfl
   ·exact h60 e2
   ·exact hfr
  ·refine Or.inl ?_
   show reckon k (if y = f then d else σ y) (if f = f then d else σ f) = some (if v.num = f then d else σ v.num)
   rw [hne y hyv, if_pos rfl, hne v.num (List.mem_map_of_mem (List.mem_append_right _ (List.mem_cons_self ..)))]
   exact hrk
theorem ok1_rew {a : Nat} {Ar : List Int} {t d : Bool} {picks : List Int} {k m : Nat} {bks out : List Blk} {e : Int} (h : RewS a stdRules picks k bks out m e) : ∀ {vs : List Val} {r : Nat} {σ : Nat -> Int}, bks = [⟨vs, .ret r⟩] -> Ok1 a Ar t d σ vs r -> (wrF a bks).length <= 1500 ->
  ∃ vs' r' σ', out = [⟨vs', .ret r'⟩] /\ Ok1 a Ar t d σ' vs' r' /\ σ' r' = σ r /\ (wrF a out).length <= 1500 /\ (e = 0 \/ e = 9) := by
 induction h with
 | done _ => exact fun hb ho hl => ⟨_, _, _, hb, ho, rfl, hl, Or.inl rfl⟩
 | room _ _ => exact fun hb ho hl => ⟨_, _, _, hb, ho, rfl, hl, Or.inr rfl⟩
 | next hp hs _ ih =>
  intro vs r σ hb ho hl
  subst hb
  obtain ⟨vs', r', σ', rfl, o1, o2, o3⟩ := ok1_step ho (List.mem_of_getElem? hp) hs
  obtain ⟨vs2, r2, σ2, e1, e2, e3, e4⟩ := ih rfl o1 o3
  exact ⟨vs2, r2, σ2, e1, e2, e3.trans o2, e4⟩
end Code
namespace Code
def phiF : Nat -> List UInt8 -> Option (List Nat × List UInt8)
 | 0, _ => none
 | n + 1, s => match cut [32] s with
  | none => some ([], s)
  | some r => (value r).bind fun p => (phiF n p.2).map fun q => (p.1 :: q.1, q.2)
theorem phiF_sound : ∀ (n : Nat) (s : List UInt8) (o : List Nat × List UInt8), phiF n s = some o -> PhiOf s (some o)
 | 0, _, _, h => by cases h
 | n + 1, s, o, h => by
  unfold phiF at h
  split at h
  ·rename_i hc
   cases h
   exact PhiOf.done hc
  ·rename_i r hc
   cases hv : value r with
   | none => rw [hv] at h; cases h
   | some p =>
    rw [hv] at h
    simp only [Option.bind_some] at h
    cases hq : phiF n p.2 with
    | none => rw [hq] at h; cases h
    | some q =>
     rw [hq] at h
     cases h
     exact PhiOf.more hc hv (phiF_sound n _ _ hq)
def thingF (n a : Nat) (s : List UInt8) : Option (Thing × List UInt8) :=
 if word s = sPhi then (phiF n (behind s)).map fun p => (.phi p.1, p.2)
 else if word s = sArg then (cut [32] (behind s)).bind fun r => (below a r).map fun p => (.arg p.1, p.2)
 else if word s = sConst then (cut [32] (behind s)).bind fun r => (signed r).map fun p => (.const p.1, p.2)
 else apply (word s) (behind s)
theorem thingF_sound {n a : Nat} {s : List UInt8} {o : Thing × List UInt8} (h : thingF n a s = some o) : ThingOf a s (some o) := by
 unfold thingF at h
 split at h
 ·rename_i h1
  cases hp : phiF n (behind s) with
  | none => rw [hp] at h; cases h
  | some q =>
   rw [hp] at h
   cases h
   exact ThingOf.phi h1 (phiF_sound _ _ _ hp)
 ·rename_i h1
  split at h
  ·rename_i h2
   rw [<- h]
   exact ThingOf.arg h2
  ·rename_i h2
   split at h
   ·rename_i h3
    rw [<- h]
    exact ThingOf.const h3
   ·rename_i h3
    rw [<- h]
    exact ThingOf.apply h1 h2 h3
def valuesF : Nat -> Nat -> Bool -> List UInt8 -> Option (List Val × List UInt8)
 | 0, _, _, _ => none
 | n + 1, a, b, s => match cut [118] s with
  | none => some ([], s)
  | some _ => (value s).bind fun p => (cut [32, 61, 32] p.2).bind fun u => (thingF 60 a u).bind fun y =>
   if y.1.isPhi = true /\ b = false then none else (cut [10] y.2).bind fun z => (valuesF n a y.1.isPhi z).map fun q => (⟨p.1, y.1⟩ :: q.1, q.2)
theorem valuesF_sound : ∀ (n a : Nat) (b : Bool) (s : List UInt8) (o : List Val × List UInt8), valuesF n a b s = some o -> ValuesOf a b s (some o)
 | 0, _, _, _, _, h => by cases h
 | n + 1, a, b, s, o, h => by
  unfold valuesF at h
  split at h
  ·rename_i hc
   cases h
   exact ValuesOf.done hc
  ·rename_i r hc
   cases hv : value s with
   | none => rw [hv] at h; cases h
   | some p =>
    rw [hv] at h
    simp only [Option.bind_some] at h
    cases hu : cut [32, 61, 32] p.2 with
    | none => rw [hu] at h; cases h
    | some u =>
     rw [hu] at h
     simp only [Option.bind_some] at h
     cases hy : thingF 60 a u with
     | none => rw [hy] at h; cases h
     | some y =>
      rw [hy] at h
      simp only [Option.bind_some] at h
      split at h
      ·cases h
      ·rename_i hph
       cases hz : cut [10] y.2 with
       | none => rw [hz] at h; cases h
       | some z =>
        rw [hz] at h
        simp only [Option.bind_some] at h
        cases hq : valuesF n a y.1.isPhi z with
        | none => rw [hq] at h; cases h
        | some q =>
         rw [hq] at h
         cases h
         refine ValuesOf.more hc hv hu (thingF_sound hy) (fun hp => ?_) hz (valuesF_sound n _ _ _ _ hq)
         cases b
         ·exact absurd ⟨hp, rfl⟩ hph
         ·rfl
def blockF (a num : Nat) (s : List UInt8) : Option (Blk × List UInt8) :=
 (cut [98] s).bind fun r1 => (below 8 r1).bind fun p => if p.1 ≠ num then none else (cut [58] p.2).bind fun r3 => (cut [10] r3).bind fun r4 => (valuesF 61 a true r4).bind fun q => (last q.2).bind fun z => (cut [10] z.2).map fun r7 => (⟨q.1, z.1⟩, r7)
theorem blockF_sound {a num : Nat} {s t : List UInt8} {b : Blk} (h : blockF a num s = some (b, t)) : BlockIs a num s b t := by
 unfold blockF at h
 cases h1 : cut [98] s with
 | none => rw [h1] at h; cases h
 | some r1 =>
  rw [h1] at h
  simp only [Option.bind_some] at h
  cases h2 : below 8 r1 with
  | none => rw [h2] at h; cases h
  | some p =>
   rw [h2] at h
   simp only [Option.bind_some] at h
   split at h
   ·cases h
   ·rename_i hn
    have hn' : p.1 = num := Classical.byContradiction hn
    obtain ⟨m, r2⟩ := p
    subst hn'
    cases h3 : cut [58] r2 with
    | none => simp only [h3] at h; cases h
    | some r3 =>
     simp only [h3, Option.bind_some] at h
     cases h4 : cut [10] r3 with
     | none => rw [h4] at h; cases h
     | some r4 =>
      rw [h4] at h
      simp only [Option.bind_some] at h
      cases h5 : valuesF 61 a true r4 with
      | none => rw [h5] at h; cases h
      | some q =>
       rw [h5] at h
       simp only [Option.bind_some] at h
       cases h6 : last q.2 with
       | none => rw [h6] at h; cases h
       | some z =>
        rw [h6] at h
        simp only [Option.bind_some] at h
        cases h7 : cut [10] z.2 with
        | none => rw [h7] at h; cases h
        | some r7 =>
         rw [h7] at h
         cases h
         exact BlockIs.mk h1 h2 h3 h4 (valuesF_sound _ _ _ _ _ h5) h6 h7
def blocksF : Nat -> Nat -> Nat -> List UInt8 -> Option (List Blk)
 | 0, _, _, _ => none
 | n + 1, a, k, s => if s = [] then some [] else (blockF a k s).bind fun p => (blocksF n a (k + 1) p.2).map fun q => p.1 :: q
theorem blocksF_sound : ∀ (n a k : Nat) (s : List UInt8) (o : List Blk), blocksF n a k s = some o -> BlocksIs a k s o
 | 0, _, _, _, _, h => by cases h
 | n + 1, a, k, s, o, h => by
  unfold blocksF at h
  split at h
  ·rename_i hs
   subst hs
   cases h
   exact BlocksIs.nil
  ·rename_i hs
   cases hb : blockF a k s with
   | none => rw [hb] at h; cases h
   | some p =>
    rw [hb] at h
    simp only [Option.bind_some] at h
    cases hq : blocksF n a (k + 1) p.2 with
    | none => rw [hq] at h; cases h
    | some q =>
     rw [hq] at h
     cases h
     exact BlocksIs.cons hs (blockF_sound hb) (blocksF_sound n _ _ _ _ hq)
def fnF (s : List UInt8) : Option Fn :=
 (cut sFunc s).bind fun r1 => (below 5 r1).bind fun p => (cut [10] p.2).bind fun r3 => (blockF p.1 0 r3).bind fun b => (blocksF 9 p.1 1 b.2).map fun q => ⟨p.1, b.1 :: q⟩
theorem fnF_sound {s : List UInt8} {f : Fn} (h : fnF s = some f) : FnIs s f := by
 unfold fnF at h
 cases h1 : cut sFunc s with
 | none => rw [h1] at h; cases h
 | some r1 =>
  rw [h1] at h
  simp only [Option.bind_some] at h
  cases h2 : below 5 r1 with
  | none => rw [h2] at h; cases h
  | some p =>
   rw [h2] at h
   simp only [Option.bind_some] at h
   cases h3 : cut [10] p.2 with
   | none => rw [h3] at h; cases h
   | some r3 =>
    rw [h3] at h
    simp only [Option.bind_some] at h
    cases h4 : blockF p.1 0 r3 with
    | none => rw [h4] at h; cases h
    | some b =>
     rw [h4] at h
     simp only [Option.bind_some] at h
     cases h5 : blocksF 9 p.1 1 b.2 with
     | none => rw [h5] at h; cases h
     | some q =>
      rw [h5] at h
      cases h
      exact FnIs.mk h1 h2 h3 (blockF_sound h4) (blocksF_sound _ _ _ _ _ h5)
end Code
namespace Code
def noBlk : Blk := ⟨[], .ret 0⟩
theorem blk_getD (bks : List Blk) (j : Nat) (h : j < bks.length) : bks.getD j noBlk = bks[j] := by rw [List.getD_eq_getElem?_getD, List.getElem?_eq_getElem h]; rfl
def smallB (bks : List Blk) : Bool := bks.all fun b => decide (b.values.length <= 100000) && (b.values.all fun v => decide (v.num < 60) && decide ((useT v.thing).length <= 100000) && (useT v.thing).all fun x => decide (x < 60)) && decide ((useL b.last).length <= 100000) && (useL b.last).all fun x => decide (x < 60)
theorem smallB_sound {bks : List Blk} (h : smallB bks = true) : Small bks := by
 intro b hb
 have h1 := List.all_eq_true.1 h b hb
 simp only [Bool.and_eq_true, List.all_eq_true, decide_eq_true_eq] at h1
 exact ⟨h1.1.1.1, fun v hv => ⟨(h1.1.1.2 v hv).1.1, (h1.1.1.2 v hv).1.2, (h1.1.1.2 v hv).2⟩, h1.1.2, h1.2⟩
def onceB : List Bool -> List Blk -> Bool
 | _, [] => true
 | R, b :: r => decide (nums b.values).Nodup && ((nums b.values).all fun x => R.getD x false == false) && onceB (addAll R b.values) r
theorem onceB_sound : ∀ (bks : List Blk) (R : List Bool), onceB R bks = true -> Once R bks
 | [], _, _ => trivial
 | b :: r, R, h => by
  simp only [onceB, Bool.and_eq_true, decide_eq_true_eq, List.all_eq_true, beq_iff_eq] at h
  exact ⟨⟨h.1.1, h.1.2⟩, onceB_sound r _ h.2⟩
def goesB (bks : List Blk) : Bool := bks.all fun b => (tg b.last).all fun t => decide (1 <= t) && decide (t < bks.length)
def phisB (bks : List Blk) : Bool := (List.range bks.length).all fun j => (bks.getD j noBlk).values.all fun v => match v.thing with
 | .phi of => decide (j ≠ 0) && decide (of.length = (edges bks).counts.getD j 0)
 | _ => true
theorem phisB_sound {bks : List Blk} (h : phisB bks = true) : PhisOk bks := by
 intro j hj v hv of ho
 have h1 := List.all_eq_true.1 h j (List.mem_range.2 hj)
 rw [blk_getD bks j hj] at h1
 have h2 := List.all_eq_true.1 h1 v hv
 rw [ho] at h2
 simp only [Bool.and_eq_true, decide_eq_true_eq] at h2
 exact h2
def valsB : List Bool -> List Val -> Bool
 | _, [] => true
 | R, v :: l => hasAll R (useT v.thing) && valsB (R.set v.num true) l
theorem valsB_sound : ∀ (l : List Val) (R : List Bool), valsB R l = true -> ValsOk R l
 | [], _, _ => trivial
 | v :: l, R, h => by
  simp only [valsB, Bool.and_eq_true] at h
  exact ⟨h.1, valsB_sound l _ h.2⟩
def phisMadeB (vals : List Val) (place : Nat) (R : List Bool) : Bool := vals.all fun v => match v.thing with
 | .phi of => decide (place < of.length) && decide (of.getD place 0 < 60) && R.getD (of.getD place 0) false
 | _ => true
theorem phisMadeB_sound {vals : List Val} {place : Nat} {R : List Bool} (h : phisMadeB vals place R = true) : PhisMade vals place R := by
 intro v hv of ho
 have h1 := List.all_eq_true.1 h v hv
 rw [ho] at h1
 simp only [Bool.and_eq_true, decide_eq_true_eq] at h1
 obtain ⟨⟨h2, h3⟩, h4⟩ := h1
 have e : of.getD place 0 = of[place] := by rw [List.getD_eq_getElem?_getD, List.getElem?_eq_getElem h2]; rfl
 rw [e] at h3 h4
 exact ⟨h2, h3, h4⟩
def aheadB (bks : List Blk) (A : Sets) : Bool := (List.range bks.length).all fun j =>
 let b := bks.getD j noBlk
 let R := A.getD j []
 valsB R b.values && hasAll (addAll R b.values) (useL b.last) && (List.range (tg b.last).length).all fun k =>
  phisMadeB (bks.getD ((tg b.last).getD k 0) noBlk).values ((edges bks).places j k) (addAll R b.values)
theorem aheadB_sound {bks : List Blk} {A : Sets} (h : aheadB bks A = true) : AheadOk bks A := by
 intro j hj hA
 have h1 := List.all_eq_true.1 h j (List.mem_range.2 hj)
 simp only [blk_getD bks j hj, sets_get A j hA, Bool.and_eq_true] at h1
 refine ⟨valsB_sound _ _ h1.1.1, h1.1.2, fun k hk ht => ?_⟩
 have h2 := List.all_eq_true.1 h1.2 k (List.mem_range.2 hk)
 have e : (tg bks[j].last).getD k 0 = (tg bks[j].last)[k] := by rw [List.getD_eq_getElem?_getD, List.getElem?_eq_getElem hk]; rfl
 rw [e, blk_getD bks _ ht] at h2
 exact phisMadeB_sound h2
def iterF : Nat -> List Blk -> Sets -> Option Sets
 | 0, _, _ => none
 | n + 1, bks, A => if (pass bks A).2 = true then iterF n bks (pass bks A).1 else some (pass bks A).1
theorem iterF_sound : ∀ (n : Nat) (bks : List Blk) (A B : Sets), iterF n bks A = some B -> Iter bks A B
 | 0, _, _, _, h => by cases h
 | n + 1, bks, A, B, h => by
  unfold iterF at h
  split at h
  ·rename_i hc
   exact Iter.more hc (iterF_sound n _ _ _ h)
  ·rename_i hc
   cases h
   exact Iter.done (by simpa using hc)
def aheadAllB (bks : List Blk) : Bool := match iterF 20 bks (startTo bks.length bks.length) with
 | some A => aheadB bks A
 | none => false
def rightB (bks : List Blk) : Bool := decide (bks.length <= 8) && decide (0 < bks.length) && smallB bks && onceB noNumber bks && goesB bks && (reachF 9 (tgs bks) (List.replicate bks.length false) 0 == List.replicate bks.length true) && phisB bks && aheadAllB bks
theorem rightB_sound {bks : List Blk} (h : rightB bks = true) : Right bks := by
 simp only [rightB, Bool.and_eq_true, decide_eq_true_eq, beq_iff_eq] at h
 obtain ⟨⟨⟨⟨⟨⟨⟨h1, h2⟩, h3⟩, h4⟩, h5⟩, h6⟩, h7⟩, h8⟩ := h
 refine ⟨h1, h2, smallB_sound h3, onceB_sound _ _ h4, fun b hb t ht => ?_, h6, phisB_sound h7, fun A _ _ hA => ?_⟩
 ·have := List.all_eq_true.1 (List.all_eq_true.1 h5 b hb) t ht
  simpa using this
 ·unfold aheadAllB at h8
  split at h8
  ·rename_i B hB
   rw [hA.det (iterF_sound _ _ _ _ hB)]
   exact aheadB_sound h8
  ·cases h8
end Code
namespace Code
def textW1 : List UInt8 := [102, 117, 110, 99, 32, 49, 10, 98, 48, 58, 10, 118, 48, 32, 61, 32, 97, 114, 103, 32, 48, 10, 118, 49, 32, 61, 32, 99, 111, 110, 115, 116, 32, 56, 10, 118, 50, 32, 61, 32, 109, 117, 108, 32, 118, 48, 32, 118, 49, 10, 114, 101, 116, 32, 118, 50, 10]
def fnW1 : Fn := ⟨1, [⟨[⟨0, .arg 0⟩, ⟨1, .const 8⟩, ⟨2, .apply 2 [0, 1]⟩], .ret 2⟩]⟩
theorem isW1 : FnIs textW1 fnW1 := fnF_sound (by kernel_rfl)
theorem rightW1 : Right fnW1.blocks := rightB_sound (by kernel_rfl)
end Code
namespace Code
theorem Ends.det {args : List Int} {bks : List Blk} {fu at_ place : Nat} {V : List Int} {st : Nat} {r : Int} {n : Nat} {e : Int} {r' : Int} {n' : Nat} {e' : Int}
  (h : Ends args bks fu at_ place V st r n e) (h' : Ends args bks fu at_ place V st r' n' e') : r = r' /\ n = n' /\ e = e' := by
 induction h generalizing r' n' e' with
 | fuelV h1 h2 => cases h' <;> simp_all
 | trap h1 h2 => cases h' <;> simp_all
 | fuelL h1 h2 h3 => cases h' <;> simp_all <;> omega
 | ret h1 h2 h3 h4 => cases h' <;> simp_all <;> omega
 | jump h1 h2 h3 h4 h5 ih => cases h' <;> simp_all <;> first | omega | exact ih (by assumption)
 | yes h1 h2 h3 h4 h5 h6 ih => cases h' <;> simp_all <;> first | omega | exact ih (by assumption)
 | no h1 h2 h3 h4 h5 h6 ih => cases h' <;> simp_all <;> first | omega | exact ih (by assumption)
end Code
namespace Code
end Code
theorem irRun_at (s : List UInt8) (f : Code.Fn) (av : Value) (args : List Int) (fu : Nat) (w : World) (r : Int) (n : Nat) (er : Int) (hs : s.length <= 1500) (ht : Tab w) (hf : Code.FnIs s f) (hr : Code.Right f.blocks) (hav : w.ownsRow 0 3 1 av args.length (ints args)) (hal : args.length = f.args) (h32 : In32 args) (hal2 : args.length <= 100000) (hfu : fu <= 100000) (hrun : Code.Runs args f.blocks) (hE : Code.Ends args f.blocks fu 0 0 zeros 0 r n er) :
  Calls Tryz.prog 25 #[.string (bs s), av, .int .i64 (fu : Nat)] w fun e w' => e = .returned (.tuple #[.int .i64 r, .int .i64 (n : Nat), .int .i64 er]) /\ Below w.heap.size w w' := by
 refine (irRun_ok s f av args fu w hs ht hf hr hav hal h32 hal2 hfu hrun).mono ?_
 rintro e w' ⟨r', n', er', hE', rfl, hb⟩
 obtain ⟨rfl, rfl, rfl⟩ := hE'.det hE
 exact ⟨rfl, hb⟩
open Go.Proofs.YtedkjanogjglkaaGreatDoor.Ref (dec ch digits)
namespace Code
theorem useT_all {t : Thing} {x : Nat} (h : x ∈ useT t) : x ∈ allUses t := by
 cases t with
 | apply k of => exact h
 | _ => cases h
theorem Line.vals : ∀ {l : List Val} {S : Nat -> Prop} {R : List Bool}, Line S l -> R.length = 60 -> (∀ v ∈ l, v.num < 60) -> (∀ x, S x -> R.getD x false = true) ->
  ValsOk R l /\ ∀ x, S x \/ x ∈ l.map Val.num -> (addAll R l).getD x false = true
 | [], _, _, _, _, _, h => ⟨trivial, fun x hx => hx.elim (h x) (fun h => by cases h)⟩
 | v :: l, S, R, hl, hR, hn, h => by
  have hv := hn v (List.mem_cons_self ..)
  have ih := Line.vals (R := R.set v.num true) hl.2 (by simp [hR]) (fun u hu => hn u (List.mem_cons_of_mem _ hu)) (fun x hx => by
   by_cases e : x = v.num
   ·subst e; exact getD_set_self (by omega)
   ·rw [set_getD _ _ _ e]; exact h x (hx.resolve_right e))
  refine ⟨⟨hasAll_of (fun x hx => h x (hl.1 x (useT_all hx))), ih.1⟩, fun x hx => ih.2 x ?_⟩
  rw [List.map_cons, List.mem_cons] at hx
  rcases hx with hx | hx | hx
  ·exact Or.inl (Or.inl hx)
  ·exact Or.inl (Or.inr hx)
  ·exact Or.inr hx
theorem Ok1.len {a : Nat} {A : List Int} {t d : Bool} {σ : Nat -> Int} {vs : List Val} {r : Nat} (h : Ok1 a A t d σ vs r) : vs.length <= 60 := by
 have := nodup_short h.once (n := 60) (fun x hx => by
  obtain ⟨u, hu, rfl⟩ := List.mem_map.1 hx
  exact (h.good u hu).1)
 simpa using this
theorem Ok1.low {a : Nat} {A : List Int} {t d : Bool} {σ : Nat -> Int} {vs : List Val} {r : Nat} (h : Ok1 a A t d σ vs r) {x : Nat} (hx : x ∈ vs.map Val.num) : x < 60 := by
 obtain ⟨u, hu, rfl⟩ := List.mem_map.1 hx
 exact (h.good u hu).1
theorem Ok1.right {a : Nat} {A : List Int} {t d : Bool} {σ : Nat -> Int} {vs : List Val} {r : Nat} (h : Ok1 a A t d σ vs r) : Right [⟨vs, .ret r⟩] where
 most := by show 1 <= 8; omega
 some := by show 0 < 1; omega
 small := by
  intro b hb
  obtain rfl := List.mem_singleton.1 hb
  have := h.len
  refine ⟨by show vs.length <= 100000; omega, fun x hx => ?_, by show 1 <= 100000; omega, fun x hx => ?_⟩
  ·exact ⟨(h.good x hx).1, useT_len (h.good x hx).2, fun y hy => h.low ((h.line.mem x hx y (useT_all hy)).elim (fun h => h.elim) id)⟩
  ·rw [show x = r from List.mem_singleton.1 hx]
   exact h.low h.last
 once := by
  refine ⟨⟨h.once, fun x hx => ?_⟩, trivial⟩
  show noNumber.getD x false = false
  unfold noNumber
  rw [List.getD_eq_getElem?_getD, List.getElem?_replicate]
  split <;> rfl
 goes := by
  intro b hb t ht
  obtain rfl := List.mem_singleton.1 hb
  cases ht
 reached := rfl
 phis := by
  intro j hj x hx of ho
  obtain rfl : j = 0 := by simp only [List.length_cons, List.length_nil] at hj; omega
  have := (h.good x hx).2
  rw [ho] at this
  exact absurd this id
 ahead := by
  intro A hA h60 _
  intro j hj hj'
  obtain rfl : j = 0 := by simp only [List.length_cons, List.length_nil] at hj; omega
  have hR : (A[0]'hj').length = 60 := h60 _ (List.getElem_mem hj')
  obtain ⟨h1, h2⟩ := h.line.vals hR (fun v hv => (h.good v hv).1) (fun x hx => hx.elim)
  refine ⟨h1, hasAll_of (fun x hx => ?_), fun k hk => ?_⟩
  ·rw [show x = r from List.mem_singleton.1 hx]
   exact h2 r (Or.inr h.last)
  ·exact absurd hk (Nat.not_lt_zero _)
theorem Ok1.runs {A : List Int} {t d : Bool} {σ : Nat -> Int} {vs : List Val} {r : Nat} (h : Ok1 A.length A t d σ vs r) : Runs A [⟨vs, .ret r⟩] where
 most := by show 1 <= 8; omega
 some := by show 0 < 1; omega
 lens := by
  intro b hb
  obtain rfl := List.mem_singleton.1 hb
  have := h.len
  show vs.length <= 100000; omega
 goes := by
  intro b hb t ht
  obtain rfl := List.mem_singleton.1 hb
  cases ht
 uses := by
  intro b hb x hx
  obtain rfl := List.mem_singleton.1 hb
  rw [show x = r from List.mem_singleton.1 hx]
  exact h.low h.last
 first := by
  intro _ x hx
  obtain ⟨h1, h2⟩ := h.good x hx
  refine ⟨h1, ?_⟩
  have hne := good_ne h2
  have hu := useT_len h2
  obtain ⟨n, t⟩ := x
  cases t with
  | phi of => exact absurd h2 id
  | arg m => exact h2
  | const m => exact h2
  | apply k of => exact ⟨h2.1, hne k of rfl, hu, h2.2.2⟩
 others := by
  intro j hj k hk
  obtain rfl : j = 0 := by simp only [List.length_cons, List.length_nil] at hj; omega
  exact absurd hk (Nat.not_lt_zero _)
theorem comes_eval {a : Nat} {A V0 V : List Int} {σ : Nat -> Int} {t : Thing} (hg : GoodT a t) (h : ∀ x ∈ allUses t, V.getD x 0 = σ x) : comes A V0 V 0 t = evalT A σ t := by
 cases t with
 | phi of => exact absurd hg id
 | apply k of =>
  obtain ⟨h1, h2⟩ := ends_mem (good_ne hg k of rfl)
  show reckon k _ _ = reckon k _ _
  rw [h _ h1, h _ h2]
 | _ => rfl
theorem set_val {V : List Int} {σ : Nat -> Int} {S : Nat -> Prop} {n : Nat} (hn : n < V.length) (h : ∀ x, S x -> V.getD x 0 = σ x) : ∀ x, S x \/ x = n -> (V.set n (σ n)).getD x 0 = σ x := fun x hx => by
 by_cases e : x = n
 ·subst e
  rw [List.getD_eq_getElem?_getD, List.getElem?_set_self hn]; rfl
 ·rw [List.getD_eq_getElem?_getD, List.getElem?_set_ne (fun h => e h.symm), <- List.getD_eq_getElem?_getD]
  exact h x (hx.resolve_right e)
theorem line_runs {a : Nat} {A V0 : List Int} {σ : Nat -> Int} {t : Bool} {fu : Nat} : ∀ (l : List Val) (S : Nat -> Prop) (V : List Int) (st : Nat), Line S l -> (∀ v ∈ l, v.num < 60 /\ GoodT a v.thing) -> (∀ v ∈ l, HoldsV t A σ v) -> V.length = 60 -> (∀ x, S x -> V.getD x 0 = σ x) -> st + l.length <= fu ->
  (∃ v ∈ l, evalT A σ v.thing = none) /\ (∃ V' st', runVals A V0 0 fu l V st = .trap V' st') \/ (∀ v ∈ l, evalT A σ v.thing ≠ none) /\ ∃ V', runVals A V0 0 fu l V st = .ok V' (st + l.length) /\ ∀ x, S x \/ x ∈ l.map Val.num -> V'.getD x 0 = σ x
 | [], S, V, st, _, _, _, _, hS, _ => Or.inr ⟨(fun v h => by cases h), V, rfl, fun x hx => hx.elim (hS x) (fun h => by cases h)⟩
 | v :: l, S, V, st, hl, hg, hh, h60, hS, hf => by
  rw [List.length_cons] at hf
  obtain ⟨g1, g2⟩ := hg v (List.mem_cons_self ..)
  have hc := comes_eval (A := A) (V0 := V0) g2 (fun x hx => hS x (hl.1 x hx))
  have hnone : evalT A σ v.thing = none -> ∃ V' st', runVals A V0 0 fu (v :: l) V st = .trap V' st' := fun h => ⟨_, _, runVals_trap (by omega) (hc.trans h)⟩
  rcases hh v (List.mem_cons_self ..) with h | ⟨_, _, h⟩
  ·rw [runVals_on (by omega) (hc.trans h)]
   rcases line_runs (V0 := V0) (fu := fu) l _ (V.set v.num (σ v.num)) (st + 1) hl.2 (fun u hu => hg u (List.mem_cons_of_mem _ hu)) (fun u hu => hh u (List.mem_cons_of_mem _ hu)) (by simp [h60]) (set_val (by omega) hS) (by omega) with ⟨⟨u, hu, e⟩, h2⟩ | ⟨h1, V', h2, h3⟩
   ·exact Or.inl ⟨⟨u, List.mem_cons_of_mem _ hu, e⟩, h2⟩
   ·refine Or.inr ⟨fun u hu => ?_, V', ?_, fun x hx => h3 x ?_⟩
    ·rcases List.mem_cons.1 hu with rfl | hu
     ·rw [h]; simp
     ·exact h1 u hu
    ·rw [h2, List.length_cons]
     congr 1
     omega
    ·rw [List.map_cons, List.mem_cons] at hx
     rcases hx with hx | hx | hx
     ·exact Or.inl (Or.inl hx)
     ·exact Or.inl (Or.inr hx)
     ·exact Or.inr hx
  ·exact Or.inl ⟨⟨v, List.mem_cons_self .., h⟩, hnone h⟩
theorem Ok1.ends {a : Nat} {A : List Int} {t d : Bool} {σ : Nat -> Int} {vs : List Val} {r fu : Nat} (h : Ok1 a A t d σ vs r) (hf : 60 < fu) : ∃ n : Nat, (t = false -> 2 <= n) /\ Ends A [⟨vs, .ret r⟩] fu 0 0 zeros 0 (if t then 0 else σ r) n (if t then 4 else 0) := by
 have hlen := h.len
 rcases line_runs (V0 := zeros) (fu := fu) vs _ zeros 0 h.line h.good h.holds (by rfl) (fun x hx => hx.elim) (by omega) with ⟨⟨u, hu, e⟩, V', st', h2⟩ | ⟨h1, V', h2, h3⟩
 ·have ht : t = true := by
   rcases h.holds u hu with h | ⟨h, _⟩
   ·rw [e] at h; cases h
   ·exact h
  subst ht
  exact ⟨st', (fun h => by cases h), Ends.trap (b := ⟨vs, .ret r⟩) rfl h2⟩
 ·have ht : t = false := by
   cases t with
   | false => rfl
   | true =>
    obtain ⟨u, hu, _, e⟩ := h.trap rfl
    exact absurd e (h1 u hu)
  subst ht
  rw [Nat.zero_add] at h2
  have := Ends.ret (args := A) (bks := [⟨vs, .ret r⟩]) (fu := fu) (at_ := 0) (place := 0) (st := 0) (b := ⟨vs, .ret r⟩) (v := r) rfl h2 (by omega) rfl
  rw [h3 r (Or.inr h.last)] at this
  have hpos : 0 < vs.length := by
   have := List.length_pos_of_mem h.last
   rwa [List.length_map] at this
  exact ⟨_, fun _ => by omega, this⟩
theorem sdDigits (n : Nat) : Lib.decDigits n = dec n := by
 induction n using Nat.strongRecOn with
 | _ n ih =>
  rw [Lib.decDigits]
  split
  ·rename_i h
   rw [Ref.dec_small h, Nat.mod_eq_of_lt h]; rfl
  ·rename_i h
   rw [ih (n / 10) (by omega), Ref.dec_big (n := n) (by omega)]; rfl
theorem sdItoa (n : Nat) : Lib.itoa (n : Int) = dec n := by rw [Lib.itoa_nonneg, sdDigits]
theorem sdItoaI (c : Int) : Lib.itoa c = digits c := by
 unfold Lib.itoa digits
 split
 ·rw [sdDigits, show c.natAbs = (-c).toNat by omega]
 ·rw [sdDigits]
theorem sdOf : ∀ (l : List Nat), numb [32, 118] (ofNats l) = ofText l
 | [] => rfl
 | x :: l => by
  have ih := sdOf l
  unfold numb ofNats at *
  rw [List.map_cons, List.flatMap_cons, ih, Int.ofNat_eq_natCast, sdItoa]; rfl
theorem sdOne (m : List UInt8) (n : Nat) : numb m [(n : Int)] = m ++ dec n := by
 unfold numb
 rw [List.flatMap_cons, sdItoa]; simp
theorem sdLine {a : Nat} (v : Val) (h : GoodT a v.thing) : wrV v = lineOf v := by
 have e : wrT v.thing = textT v.thing := by
  obtain ⟨n, t⟩ := v
  cases t with
  | phi of => exact absurd h id
  | arg k => show wrT (.arg k) = _; rw [wrT, sdOne]; rfl
  | const c => simp [wrT, numb, sdItoaI, textT]
  | apply k of => show wrT (.apply k of) = _; rw [wrT, sdOf]; rfl
 unfold wrV lineOf
 rw [sdOne, e]; simp
theorem wrF_one {a : Nat} {vs : List Val} {r : Nat} (h : ∀ v ∈ vs, v.num < 60 /\ GoodT a v.thing) : wrF a [⟨vs, .ret r⟩] = [102, 117, 110, 99, 32] ++ dec a ++ [10] ++ oneBlock vs r := by
 have e : vs.flatMap wrV = linesOf vs := by
  unfold linesOf
  induction vs with
  | nil => rfl
  | cons v l ih => rw [List.flatMap_cons, List.flatMap_cons, sdLine v (h v (List.mem_cons_self ..)).2, ih (fun u hu => h u (List.mem_cons_of_mem _ hu))]
 have e2 : wrBs 0 [⟨vs, .ret r⟩] = oneBlock vs r := by
  show (numb [98] [((0 : Nat) : Int)] ++ [58, 10] ++ vs.flatMap wrV ++ (([114, 101, 116] ++ numb [32, 118] [(r : Int)]) ++ [10])) ++ [] = _
  unfold oneBlock
  rw [sdOne, sdOne, e]
  have : dec 0 = [48] := rfl
  rw [this]
  simp
 unfold wrF
 rw [sdOne, e2]
end Code
namespace Code
theorem Ok1.fn {a : Nat} {A : List Int} {t d : Bool} {σ : Nat -> Int} {vs : List Val} {r : Nat} (h : Ok1 a A t d σ vs r) (ha : a < 5) : FnIs (wrF a [⟨vs, .ret r⟩]) ⟨a, [⟨vs, .ret r⟩]⟩ := by
 rw [wrF_one h.good]
 refine FnIs.mk (r1 := dec a ++ ([10] ++ oneBlock vs r)) (r2 := [10] ++ oneBlock vs r) (r3 := oneBlock vs r) (r4 := []) (by rw [List.append_assoc, List.append_assoc]; exact cut_app sFunc _) ?_ (cut_app [10] _) (block_text a (by omega) vs r h.good (h.low h.last)) BlocksIs.nil
 unfold below
 rw [number_dec a ([10] ++ oneBlock vs r) (by omega) (stop_cons rfl), Option.bind_some, if_pos (by show ((a : Nat) : Int) < 5; omega)]
theorem Ok1.fine {a : Nat} {A : List Int} {t d : Bool} {σ : Nat -> Int} {vs : List Val} {r : Nat} (h : Ok1 a A t d σ vs r) (ha : a < 5) : Fine [⟨vs, .ret r⟩] := by
 refine ⟨⟨by show 1 <= 8; omega, fun b hb => ?_, fun b hb v hv => ?_, fun b hb => ?_⟩, ?_⟩
 ·obtain rfl := List.mem_singleton.1 hb
  have := h.len
  show vs.length <= 1000; omega
 ·obtain rfl := List.mem_singleton.1 hb
  obtain ⟨h1, h2⟩ := h.good v hv
  refine ⟨h1, ?_⟩
  obtain ⟨n, t⟩ := v
  cases t with
  | phi of => exact absurd h2 id
  | arg m =>
   have : m < a := h2
   show m < 1000; omega
  | const m => exact h2
  | apply k of => exact h2
 ·obtain rfl := List.mem_singleton.1 hb
  exact h.low h.last
 ·unfold OnceN
  rw [List.flatMap_cons, List.flatMap_nil, List.append_nil]
  exact h.once
end Code
theorem sdRun {A : List Int} {t d : Bool} {σ : Nat -> Int} {vs : List Code.Val} {r fu : Nat} (h : Code.Ok1 A.length A t d σ vs r) (ha : A.length < 5) (hl : (Code.wrF A.length [⟨vs, .ret r⟩]).length <= 1500) (hA : In32 A) (hf : 60 < fu) (hf' : fu <= 100000) (av : Value) (w : World) (ht : Tab w) (hav : w.ownsRow 0 3 1 av A.length (ints A)) :
  Calls Tryz.prog 25 #[.string (bs (Code.wrF A.length [⟨vs, .ret r⟩])), av, .int .i64 (fu : Nat)] w fun e w' => (∃ n : Nat, (t = false -> 2 <= n) /\ e = .returned (.tuple #[.int .i64 (if t then 0 else σ r), .int .i64 (n : Nat), .int .i64 (if t then 4 else 0)])) /\ Below w.heap.size w w' := by
 obtain ⟨n, h2, hn⟩ := h.ends hf
 refine (irRun_at _ ⟨A.length, [⟨vs, .ret r⟩]⟩ av A fu w _ n _ hl ht (h.fn ha) h.right hav rfl hA (by omega) hf' h.runs hn).mono ?_
 rintro e w' ⟨rfl, hb⟩
 exact ⟨⟨n, h2, rfl⟩, hb⟩
namespace Code
theorem Seq.line : ∀ {k : Nat} {l : List Val}, Seq k l -> (∀ v ∈ l, v.thing.isPhi = false) -> Line (fun x => x < k) l
 | _, [], _, _ => trivial
 | k, v :: l, h, hp => by
  have h1 := hp v (List.mem_cons_self ..)
  have h2 := h.2.1
  refine ⟨fun x hx => h2 x ?_, (Seq.line h.2.2 fun u hu => hp u (List.mem_cons_of_mem _ hu)).mono fun x hx => ?_⟩
  ·revert h1 hx
   cases v.thing <;> simp [allUses, useT, Thing.isPhi]
  ·rw [h.1]
   omega
theorem Yields.eval {a : Nat} {args : List Int} : ∀ {l : List Val} {vs out : List Int}, Yields args vs l out -> Seq vs.length l -> (∀ v ∈ l, GoodT a v.thing) -> (∀ x, x < vs.length -> out.getD x 0 = vs.getD x 0) /\ ∀ v ∈ l, evalT args (fun x => out.getD x 0) v.thing = some (out.getD v.num 0)
 | [], vs, out, h, _, _ => by
  obtain rfl : out = vs := h
  exact ⟨fun _ _ => rfl, fun v hv => by cases hv⟩
 | v :: l, vs, out, h, hs, hg => by
  obtain ⟨n, hc, hy⟩ := h
  obtain ⟨h1, h2⟩ := Yields.eval hy (by rw [List.length_append]; exact hs.2.2) (fun u hu => hg u (List.mem_cons_of_mem _ hu))
  have hgv := hg v (List.mem_cons_self ..)
  have h3 : ∀ x, x < vs.length -> out.getD x 0 = vs.getD x 0 := fun x hx => by
   rw [h1 x (by rw [List.length_append]; omega), snoc_getD_lt _ _ _ hx]
  refine ⟨h3, fun u hu => ?_⟩
  rcases List.mem_cons.1 hu with rfl | hu
  ·have h4 := h1 vs.length (by rw [List.length_append]; show vs.length < vs.length + 1; omega)
   rw [snoc_getD_eq] at h4
   rw [hs.1, h4, <- hc]
   refine (comes_eval hgv fun x hx => ?_).symm
   refine (h3 x (hs.2.1 x ?_)).symm
   revert hx hgv
   cases u.thing <;> simp [allUses, useT, GoodT]
  ·exact h2 u hu
end Code
theorem MadeOk.ok1 {x y : Int} {l : List Code.Val} {out : List Int} {m : Nat} (h : MadeOk x y l out m) (hm : m <= 40) : Code.Ok1 2 [x, y] false true (fun n => out.getD n 0) l (l.length - 1) where
 once := by
  show (Code.nums l).Nodup
  rw [h.seq.nums]; exact List.nodup_range'
 line := (h.seq.line fun v hv => Code.good_phi (h.good v hv)).mono fun x hx => absurd hx (Nat.not_lt_zero _)
 good := fun v hv => ⟨by have := h.seq.mem v hv; have := h.len; omega, h.good v hv⟩
 holds := fun v hv => Or.inl ((h.yields.eval (a := 2) h.seq h.good).2 v hv)
 last := by
  show l.length - 1 ∈ Code.nums l
  rw [h.seq.nums, List.mem_range'_1]
  have := h.len
  omega
 trap := fun h => by cases h
 rng := fun n => h.in32.getD n
 nod := fun _ v hv => by
  have := h.nodiv v hv
  unfold Code.isDivT
  split
  ·rename_i of e
   exact absurd e (this of)
  ·rfl
theorem MadeOk.first {x y : Int} {l : List Code.Val} {out : List Int} {m : Nat} (h : MadeOk x y l out m) (hm : m <= 40) (hx : -2147483648 <= x /\ x < 2147483648) : out.getD 0 0 = x := by
 have h1 := h.ok1 hm
 obtain ⟨r, rfl, _⟩ := h.head
 rcases h1.holds ⟨0, .arg 0⟩ (List.mem_cons_self ..) with h2 | ⟨h2, _⟩
 ·have h2 : some (wrap32 x) = some (out.getD 0 0) := h2
  rw [w32_in x hx.1 hx.2, Option.some.injEq] at h2
  exact h2.symm
 ·cases h2
end Go.Proofs.YtedkjanogjglkaaGreatDoor
