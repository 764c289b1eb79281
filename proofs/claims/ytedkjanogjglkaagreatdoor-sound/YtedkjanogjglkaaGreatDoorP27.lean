/-
  Parts of the proof: SdRun, RRwK, SdText.
-/
import Derived.Lib.ItoaMem
import Derived.Test.YtedkjanogjglkaaGreatDoorP26
import Derived.Test.YtedkjanogjglkaaGreatDoorP21
import Derived.Test.YtedkjanogjglkaaGreatDoorP25
import Derived.Recover
import Derived.BigQuiet
set_option maxRecDepth 100000
set_option maxHeartbeats 8000000
namespace Go.Proofs.YtedkjanogjglkaaGreatDoor
open Go.RowKit
open Go.Proofs.YtedkjanogjglkaaGreatDoor.Ref (dec ch digits)
namespace Code
theorem useT_all {t : Thing} {x : Nat} (h : x ∈ useT t) : x ∈ allUses t := by
 cases t with
 | apply k of => exact h
 | _ => cases h
theorem Line.vals : ∀ {l : List Val} {S : Nat -> Prop} {R : List Bool}, Line S l -> R.length = 60 -> (∀ v ∈ l, v.num < 60) -> (∀ x, S x -> R.getD x false = true) ->
  ValsOk R l /\ ∀ x, S x \/ x ∈ l.map Val.num -> (addAll R l).getD x false = true
 | [], _, _, _, _, _, h => ⟨trivial, fun x hx => hx.elim (h x) (fun h => by cases h)⟩
 | v :: l, S, R, hl, hR, hn, h => by
  have hv := hn v (List.mem_cons_self ..)
  have ih := Line.vals (R := R.set v.num true) hl.2 (by simp [hR]) (fun u hu => hn u (List.mem_cons_of_mem _ hu)) (fun x hx => by
   by_cases e : x = v.num
   ·subst e; exact getD_set_self (by omega)
   ·rw [set_getD _ _ _ e]; exact h x (hx.resolve_right e))
  refine ⟨⟨hasAll_of (fun x hx => h x (hl.1 x (useT_all hx))), ih.1⟩, fun x hx => ih.2 x ?_⟩
  rw [List.map_cons, List.mem_cons] at hx
  rcases hx with hx | hx | hx
  ·exact Or.inl (Or.inl hx)
  ·exact Or.inl (Or.inr hx)
  ·exact Or.inr hx
theorem Ok1.len {a : Nat} {A : List Int} {t d : Bool} {σ : Nat -> Int} {vs : List Val} {r : Nat} (h : Ok1 a A t d σ vs r) : vs.length <= 60 := by
 have := nodup_short h.once (n := 60) (fun x hx => by
  obtain ⟨u, hu, rfl⟩ := List.mem_map.1 hx
  exact (h.good u hu).1)
 simpa using this
theorem Ok1.low {a : Nat} {A : List Int} {t d : Bool} {σ : Nat -> Int} {vs : List Val} {r : Nat} (h : Ok1 a A t d σ vs r) {x : Nat} (hx : x ∈ vs.map Val.num) : x < 60 := by
 obtain ⟨u, hu, rfl⟩ := List.mem_map.1 hx
 exact (h.good u hu).1
theorem Ok1.right {a : Nat} {A : List Int} {t d : Bool} {σ : Nat -> Int} {vs : List Val} {r : Nat} (h : Ok1 a A t d σ vs r) : Right [⟨vs, .ret r⟩] where
 most := by show 1 <= 8; omega
 some := by show 0 < 1; omega
 small := by
  intro b hb
  obtain rfl := List.mem_singleton.1 hb
  have := h.len
  refine ⟨by show vs.length <= 100000; omega, fun x hx => ?_, by show 1 <= 100000; omega, fun x hx => ?_⟩
  ·exact ⟨(h.good x hx).1, useT_len (h.good x hx).2, fun y hy => h.low ((h.line.mem x hx y (useT_all hy)).elim (fun h => h.elim) id)⟩
  ·rw [show x = r from List.mem_singleton.1 hx]
   exact h.low h.last
 once := by
  refine ⟨⟨h.once, fun x hx => ?_⟩, trivial⟩
  show noNumber.getD x false = false
  unfold noNumber
  rw [List.getD_eq_getElem?_getD, List.getElem?_replicate]
  split <;> rfl
 goes := by
  intro b hb t ht
  obtain rfl := List.mem_singleton.1 hb
  cases ht
 reached := rfl
 phis := by
  intro j hj x hx of ho
  obtain rfl : j = 0 := by simp only [List.length_cons, List.length_nil] at hj; omega
  have := (h.good x hx).2
  rw [ho] at this
  exact absurd this id
 ahead := by
  intro A hA h60 _
  intro j hj hj'
  obtain rfl : j = 0 := by simp only [List.length_cons, List.length_nil] at hj; omega
  have hR : (A[0]'hj').length = 60 := h60 _ (List.getElem_mem hj')
  obtain ⟨h1, h2⟩ := h.line.vals hR (fun v hv => (h.good v hv).1) (fun x hx => hx.elim)
  refine ⟨h1, hasAll_of (fun x hx => ?_), fun k hk => ?_⟩
  ·rw [show x = r from List.mem_singleton.1 hx]
   exact h2 r (Or.inr h.last)
  ·exact absurd hk (Nat.not_lt_zero _)
theorem Ok1.runs {A : List Int} {t d : Bool} {σ : Nat -> Int} {vs : List Val} {r : Nat} (h : Ok1 A.length A t d σ vs r) : Runs A [⟨vs, .ret r⟩] where
 most := by show 1 <= 8; omega
 some := by show 0 < 1; omega
 lens := by
  intro b hb
  obtain rfl := List.mem_singleton.1 hb
  have := h.len
  show vs.length <= 100000; omega
 goes := by
  intro b hb t ht
  obtain rfl := List.mem_singleton.1 hb
  cases ht
 uses := by
  intro b hb x hx
  obtain rfl := List.mem_singleton.1 hb
  rw [show x = r from List.mem_singleton.1 hx]
  exact h.low h.last
 first := by
  intro _ x hx
  obtain ⟨h1, h2⟩ := h.good x hx
  refine ⟨h1, ?_⟩
  have hne := good_ne h2
  have hu := useT_len h2
  obtain ⟨n, t⟩ := x
  cases t with
  | phi of => exact absurd h2 id
  | arg m => exact h2
  | const m => exact h2
  | apply k of => exact ⟨h2.1, hne k of rfl, hu, h2.2.2⟩
 others := by
  intro j hj k hk
  obtain rfl : j = 0 := by simp only [List.length_cons, List.length_nil] at hj; omega
  exact absurd hk (Nat.not_lt_zero _)
theorem comes_eval {a : Nat} {A V0 V : List Int} {σ : Nat -> Int} {t : Thing} (hg : GoodT a t) (h : ∀ x ∈ allUses t, V.getD x 0 = σ x) : comes A V0 V 0 t = evalT A σ t := by
 cases t with
 | phi of => exact absurd hg id
 | apply k of =>
  obtain ⟨h1, h2⟩ := ends_mem (good_ne hg k of rfl)
  show reckon k _ _ = reckon k _ _
  rw [h _ h1, h _ h2]
 | _ => rfl
theorem set_val {V : List Int} {σ : Nat -> Int} {S : Nat -> Prop} {n : Nat} (hn : n < V.length) (h : ∀ x, S x -> V.getD x 0 = σ x) : ∀ x, S x \/ x = n -> (V.set n (σ n)).getD x 0 = σ x := fun x hx => by
 by_cases e : x = n
 ·subst e
  rw [List.getD_eq_getElem?_getD, List.getElem?_set_self hn]; rfl
 ·rw [List.getD_eq_getElem?_getD, List.getElem?_set_ne (fun h => e h.symm), <- List.getD_eq_getElem?_getD]
  exact h x (hx.resolve_right e)
theorem line_runs {a : Nat} {A V0 : List Int} {σ : Nat -> Int} {t : Bool} {fu : Nat} : ∀ (l : List Val) (S : Nat -> Prop) (V : List Int) (st : Nat), Line S l -> (∀ v ∈ l, v.num < 60 /\ GoodT a v.thing) -> (∀ v ∈ l, HoldsV t A σ v) -> V.length = 60 -> (∀ x, S x -> V.getD x 0 = σ x) -> st + l.length <= fu ->
  (∃ v ∈ l, evalT A σ v.thing = none) /\ (∃ V' st', runVals A V0 0 fu l V st = .trap V' st') \/ (∀ v ∈ l, evalT A σ v.thing ≠ none) /\ ∃ V', runVals A V0 0 fu l V st = .ok V' (st + l.length) /\ ∀ x, S x \/ x ∈ l.map Val.num -> V'.getD x 0 = σ x
 | [], S, V, st, _, _, _, _, hS, _ => Or.inr ⟨(fun v h => by cases h), V, rfl, fun x hx => hx.elim (hS x) (fun h => by cases h)⟩
 | v :: l, S, V, st, hl, hg, hh, h60, hS, hf => by
  rw [List.length_cons] at hf
  obtain ⟨g1, g2⟩ := hg v (List.mem_cons_self ..)
  have hc := comes_eval (A := A) (V0 := V0) g2 (fun x hx => hS x (hl.1 x hx))
  have hnone : evalT A σ v.thing = none -> ∃ V' st', runVals A V0 0 fu (v :: l) V st = .trap V' st' := fun h => ⟨_, _, runVals_trap (by omega) (hc.trans h)⟩
  rcases hh v (List.mem_cons_self ..) with h | ⟨_, _, h⟩
  ·rw [runVals_on (by omega) (hc.trans h)]
   rcases line_runs (V0 := V0) (fu := fu) l _ (V.set v.num (σ v.num)) (st + 1) hl.2 (fun u hu => hg u (List.mem_cons_of_mem _ hu)) (fun u hu => hh u (List.mem_cons_of_mem _ hu)) (by simp [h60]) (set_val (by omega) hS) (by omega) with ⟨⟨u, hu, e⟩, h2⟩ | ⟨h1, V', h2, h3⟩
   ·exact Or.inl ⟨⟨u, List.mem_cons_of_mem _ hu, e⟩, h2⟩
   ·refine Or.inr ⟨fun u hu => ?_, V', ?_, fun x hx => h3 x ?_⟩
    ·rcases List.mem_cons.1 hu with rfl | hu
     ·rw [h]; simp
     ·exact h1 u hu
    ·rw [h2, List.length_cons]
     congr 1
     omega
    ·rw [List.map_cons, List.mem_cons] at hx
     rcases hx with hx | hx | hx
     ·exact Or.inl (Or.inl hx)
     ·exact Or.inl (Or.inr hx)
     ·exact Or.inr hx
  ·exact Or.inl ⟨⟨v, List.mem_cons_self .., h⟩, hnone h⟩
theorem Ok1.ends {a : Nat} {A : List Int} {t d : Bool} {σ : Nat -> Int} {vs : List Val} {r fu : Nat} (h : Ok1 a A t d σ vs r) (hf : 60 < fu) : ∃ n : Nat, (t = false -> 2 <= n) /\ Ends A [⟨vs, .ret r⟩] fu 0 0 zeros 0 (if t then 0 else σ r) n (if t then 4 else 0) := by
 have hlen := h.len
 rcases line_runs (V0 := zeros) (fu := fu) vs _ zeros 0 h.line h.good h.holds (by rfl) (fun x hx => hx.elim) (by omega) with ⟨⟨u, hu, e⟩, V', st', h2⟩ | ⟨h1, V', h2, h3⟩
 ·have ht : t = true := by
   rcases h.holds u hu with h | ⟨h, _⟩
   ·rw [e] at h; cases h
   ·exact h
  subst ht
  exact ⟨st', (fun h => by cases h), Ends.trap (b := ⟨vs, .ret r⟩) rfl h2⟩
 ·have ht : t = false := by
   cases t with
   | false => rfl
   | true =>
    obtain ⟨u, hu, _, e⟩ := h.trap rfl
    exact absurd e (h1 u hu)
  subst ht
  rw [Nat.zero_add] at h2
  have := Ends.ret (args := A) (bks := [⟨vs, .ret r⟩]) (fu := fu) (at_ := 0) (place := 0) (st := 0) (b := ⟨vs, .ret r⟩) (v := r) rfl h2 (by omega) rfl
  rw [h3 r (Or.inr h.last)] at this
  have hpos : 0 < vs.length := by
   have := List.length_pos_of_mem h.last
   rwa [List.length_map] at this
  exact ⟨_, fun _ => by omega, this⟩
theorem sdDigits (n : Nat) : Lib.decDigits n = dec n := by
 induction n using Nat.strongRecOn with
 | _ n ih =>
  rw [Lib.decDigits]
  split
  ·rename_i h
   rw [Ref.dec_small h, Nat.mod_eq_of_lt h]; rfl
  ·rename_i h
   rw [ih (n / 10) (by omega), Ref.dec_big (n := n) (by omega)]; rfl
theorem sdItoa (n : Nat) : Lib.itoa (n : Int) = dec n := by rw [Lib.itoa_nonneg, sdDigits]
theorem sdItoaI (c : Int) : Lib.itoa c = digits c := by
 unfold Lib.itoa digits
 split
 ·rw [sdDigits, show c.natAbs = (-c).toNat by omega]
 ·rw [sdDigits]
theorem sdOf : ∀ (l : List Nat), numb [32, 118] (ofNats l) = ofText l
 | [] => rfl
 | x :: l => by
  have ih := sdOf l
  unfold numb ofNats at *
  rw [List.map_cons, List.flatMap_cons, ih, Int.ofNat_eq_natCast, sdItoa]; rfl
theorem sdOne (m : List UInt8) (n : Nat) : numb m [(n : Int)] = m ++ dec n := by
 unfold numb
 rw [List.flatMap_cons, sdItoa]; simp
theorem sdLine {a : Nat} (v : Val) (h : GoodT a v.thing) : wrV v = lineOf v := by
 have e : wrT v.thing = textT v.thing := by
  obtain ⟨n, t⟩ := v
  cases t with
  | phi of => exact absurd h id
  | arg k => show wrT (.arg k) = _; rw [wrT, sdOne]; rfl
  | const c => simp [wrT, numb, sdItoaI, textT]
  | apply k of => show wrT (.apply k of) = _; rw [wrT, sdOf]; rfl
 unfold wrV lineOf
 rw [sdOne, e]; simp
theorem wrF_one {a : Nat} {vs : List Val} {r : Nat} (h : ∀ v ∈ vs, v.num < 60 /\ GoodT a v.thing) : wrF a [⟨vs, .ret r⟩] = [102, 117, 110, 99, 32] ++ dec a ++ [10] ++ oneBlock vs r := by
 have e : vs.flatMap wrV = linesOf vs := by
  unfold linesOf
  induction vs with
  | nil => rfl
  | cons v l ih => rw [List.flatMap_cons, List.flatMap_cons, sdLine v (h v (List.mem_cons_self ..)).2, ih (fun u hu => h u (List.mem_cons_of_mem _ hu))]
 have e2 : wrBs 0 [⟨vs, .ret r⟩] = oneBlock vs r := by
  show (numb [98] [((0 : Nat) : Int)] ++ [58, 10] ++ vs.flatMap wrV ++ (([114, 101, 116] ++ numb [32, 118] [(r : Int)]) ++ [10])) ++ [] = _
  unfold oneBlock
  rw [sdOne, sdOne, e]
  have : dec 0 = [48] := rfl
  rw [this]
  simp
 unfold wrF
 rw [sdOne, e2]
end Code
namespace Code
theorem Ok1.fn {a : Nat} {A : List Int} {t d : Bool} {σ : Nat -> Int} {vs : List Val} {r : Nat} (h : Ok1 a A t d σ vs r) (ha : a < 5) : FnIs (wrF a [⟨vs, .ret r⟩]) ⟨a, [⟨vs, .ret r⟩]⟩ := by
 rw [wrF_one h.good]
 refine FnIs.mk (r1 := dec a ++ ([10] ++ oneBlock vs r)) (r2 := [10] ++ oneBlock vs r) (r3 := oneBlock vs r) (r4 := []) (by rw [List.append_assoc, List.append_assoc]; exact cut_app sFunc _) ?_ (cut_app [10] _) (block_text a (by omega) vs r h.good (h.low h.last)) BlocksIs.nil
 unfold below
 rw [number_dec a ([10] ++ oneBlock vs r) (by omega) (stop_cons rfl), Option.bind_some, if_pos (by show ((a : Nat) : Int) < 5; omega)]
theorem Ok1.fine {a : Nat} {A : List Int} {t d : Bool} {σ : Nat -> Int} {vs : List Val} {r : Nat} (h : Ok1 a A t d σ vs r) (ha : a < 5) : Fine [⟨vs, .ret r⟩] := by
 refine ⟨⟨by show 1 <= 8; omega, fun b hb => ?_, fun b hb v hv => ?_, fun b hb => ?_⟩, ?_⟩
 ·obtain rfl := List.mem_singleton.1 hb
  have := h.len
  show vs.length <= 1000; omega
 ·obtain rfl := List.mem_singleton.1 hb
  obtain ⟨h1, h2⟩ := h.good v hv
  refine ⟨h1, ?_⟩
  obtain ⟨n, t⟩ := v
  cases t with
  | phi of => exact absurd h2 id
  | arg m =>
   have : m < a := h2
   show m < 1000; omega
  | const m => exact h2
  | apply k of => exact h2
 ·obtain rfl := List.mem_singleton.1 hb
  exact h.low h.last
 ·unfold OnceN
  rw [List.flatMap_cons, List.flatMap_nil, List.append_nil]
  exact h.once
end Code
theorem sdRun {A : List Int} {t d : Bool} {σ : Nat -> Int} {vs : List Code.Val} {r fu : Nat} (h : Code.Ok1 A.length A t d σ vs r) (ha : A.length < 5) (hl : (Code.wrF A.length [⟨vs, .ret r⟩]).length <= 1500) (hA : In32 A) (hf : 60 < fu) (hf' : fu <= 100000) (av : Value) (w : World) (ht : Tab w) (hav : w.ownsRow 0 3 1 av A.length (ints A)) :
  Calls Tryz.prog 25 #[.string (bs (Code.wrF A.length [⟨vs, .ret r⟩])), av, .int .i64 (fu : Nat)] w fun e w' => (∃ n : Nat, (t = false -> 2 <= n) /\ e = .returned (.tuple #[.int .i64 (if t then 0 else σ r), .int .i64 (n : Nat), .int .i64 (if t then 4 else 0)])) /\ Below w.heap.size w w' := by
 obtain ⟨n, h2, hn⟩ := h.ends hf
 refine (irRun_at _ ⟨A.length, [⟨vs, .ret r⟩]⟩ av A fu w _ n _ hl ht (h.fn ha) h.right hav rfl hA (by omega) hf' h.runs hn).mono ?_
 rintro e w' ⟨rfl, hb⟩
 exact ⟨⟨n, h2, rfl⟩, hb⟩
namespace Code
theorem Seq.line : ∀ {k : Nat} {l : List Val}, Seq k l -> (∀ v ∈ l, v.thing.isPhi = false) -> Line (fun x => x < k) l
 | _, [], _, _ => trivial
 | k, v :: l, h, hp => by
  have h1 := hp v (List.mem_cons_self ..)
  have h2 := h.2.1
  refine ⟨fun x hx => h2 x ?_, (Seq.line h.2.2 fun u hu => hp u (List.mem_cons_of_mem _ hu)).mono fun x hx => ?_⟩
  ·revert h1 hx
   cases v.thing <;> simp [allUses, useT, Thing.isPhi]
  ·rw [h.1]
   omega
theorem Yields.eval {a : Nat} {args : List Int} : ∀ {l : List Val} {vs out : List Int}, Yields args vs l out -> Seq vs.length l -> (∀ v ∈ l, GoodT a v.thing) -> (∀ x, x < vs.length -> out.getD x 0 = vs.getD x 0) /\ ∀ v ∈ l, evalT args (fun x => out.getD x 0) v.thing = some (out.getD v.num 0)
 | [], vs, out, h, _, _ => by
  obtain rfl : out = vs := h
  exact ⟨fun _ _ => rfl, fun v hv => by cases hv⟩
 | v :: l, vs, out, h, hs, hg => by
  obtain ⟨n, hc, hy⟩ := h
  obtain ⟨h1, h2⟩ := Yields.eval hy (by rw [List.length_append]; exact hs.2.2) (fun u hu => hg u (List.mem_cons_of_mem _ hu))
  have hgv := hg v (List.mem_cons_self ..)
  have h3 : ∀ x, x < vs.length -> out.getD x 0 = vs.getD x 0 := fun x hx => by
   rw [h1 x (by rw [List.length_append]; omega), snoc_getD_lt _ _ _ hx]
  refine ⟨h3, fun u hu => ?_⟩
  rcases List.mem_cons.1 hu with rfl | hu
  ·have h4 := h1 vs.length (by rw [List.length_append]; show vs.length < vs.length + 1; omega)
   rw [snoc_getD_eq] at h4
   rw [hs.1, h4, <- hc]
   refine (comes_eval hgv fun x hx => ?_).symm
   refine (h3 x (hs.2.1 x ?_)).symm
   revert hx hgv
   cases u.thing <;> simp [allUses, useT, GoodT]
  ·exact h2 u hu
end Code
theorem MadeOk.ok1 {x y : Int} {l : List Code.Val} {out : List Int} {m : Nat} (h : MadeOk x y l out m) (hm : m <= 40) : Code.Ok1 2 [x, y] false true (fun n => out.getD n 0) l (l.length - 1) where
 once := by
  show (Code.nums l).Nodup
  rw [h.seq.nums]; exact List.nodup_range'
 line := (h.seq.line fun v hv => Code.good_phi (h.good v hv)).mono fun x hx => absurd hx (Nat.not_lt_zero _)
 good := fun v hv => ⟨by have := h.seq.mem v hv; have := h.len; omega, h.good v hv⟩
 holds := fun v hv => Or.inl ((h.yields.eval (a := 2) h.seq h.good).2 v hv)
 last := by
  show l.length - 1 ∈ Code.nums l
  rw [h.seq.nums, List.mem_range'_1]
  have := h.len
  omega
 trap := fun h => by cases h
 rng := fun n => h.in32.getD n
 nod := fun _ v hv => by
  have := h.nodiv v hv
  unfold Code.isDivT
  split
  ·rename_i of e
   exact absurd e (this of)
  ·rfl
theorem MadeOk.first {x y : Int} {l : List Code.Val} {out : List Int} {m : Nat} (h : MadeOk x y l out m) (hm : m <= 40) (hx : -2147483648 <= x /\ x < 2147483648) : out.getD 0 0 = x := by
 have h1 := h.ok1 hm
 obtain ⟨r, rfl, _⟩ := h.head
 rcases h1.holds ⟨0, .arg 0⟩ (List.mem_cons_self ..) with h2 | ⟨h2, _⟩
 ·have h2 : some (wrap32 x) = some (out.getD 0 0) := h2
  rw [w32_in x hx.1 hx.2, Option.some.injEq] at h2
  exact h2.symm
 ·cases h2
def divL (l : List Code.Val) : List Code.Val := l ++ [⟨58, .apply 3 [0, l.length - 1]⟩]
theorem MadeOk.div {x y : Int} {l : List Code.Val} {out : List Int} {m : Nat} (h : MadeOk x y l out m) (hm : m <= 40) (hx : -2147483648 <= x /\ x < 2147483648) : ∃ τ : Nat -> Int, Code.Ok1 2 [x, y] (decide (out.getD (l.length - 1) 0 = 0)) false τ (divL l) 0 /\ τ 0 = x := by
 have h1 := h.ok1 hm
 have hx0 := h.first hm hx
 have hlen := h.len
 have h0 : 0 ∈ l.map Code.Val.num := by
  show 0 ∈ Code.nums l
  rw [h.seq.nums, List.mem_range'_1]; omega
 have hlow : ∀ z ∈ l.map Code.Val.num, z ≠ 58 := fun z hz => by
  obtain ⟨v, hv, rfl⟩ := List.mem_map.1 hz
  have := h.seq.mem v hv
  omega
 have hq := h1.last
 generalize hk : l.length - 1 = q at *
 generalize hw : out.getD q 0 = w at *
 let τ : Nat -> Int := fun n => if n = 58 then (if w = 0 then 0 else wrap32 (x.tdiv w)) else out.getD n 0
 have hτ : ∀ z ∈ l.map Code.Val.num, τ z = out.getD z 0 := fun z hz => if_neg (hlow z hz)
 have hev : ∀ v ∈ l, Code.evalT [x, y] τ v.thing = Code.evalT [x, y] (fun n => out.getD n 0) v.thing := fun v hv => Code.evalT_same (h1.good v hv).2 fun z hz => hτ z ((h1.line.mem v hv z hz).elim (fun h => h.elim) id)
 have hdv : Code.evalT [x, y] τ (.apply 3 [0, q]) = if w = 0 then none else some (wrap32 (x.tdiv w)) := by
  show Code.reckon 3 (τ 0) (τ q) = _
  rw [hτ 0 h0, hτ q hq, hx0, hw]
  rfl
 refine ⟨τ, ?_, by rw [hτ 0 h0, hx0]⟩
 unfold divL
 rw [hk]
 refine ⟨?_, ?_, fun v hv => ?_, fun v hv => ?_, by rw [List.map_append]; exact List.mem_append_left _ h0, fun ht => ?_, fun n => ?_, fun h => by cases h⟩
 ·rw [List.map_append, List.nodup_append]
  refine ⟨h1.once, by simp, fun a ha b hb e => ?_⟩
  simp only [List.map_cons, List.map_nil, List.mem_cons, List.not_mem_nil, or_false] at hb
  exact hlow a ha (e.trans hb)
 ·rw [Code.line_app]
  refine ⟨h1.line, fun z hz => Or.inr ?_, trivial⟩
  simp only [Code.allUses, List.mem_cons, List.not_mem_nil, or_false] at hz
  rcases hz with rfl | rfl
  ·exact h0
  ·exact hq
 ·rcases List.mem_append.1 hv with hv | hv
  ·exact h1.good v hv
  ·rw [List.mem_singleton.1 hv]
   refine ⟨by show 58 < 60; omega, by show 3 < 13; omega, rfl, fun z hz => ?_⟩
   simp only [List.mem_cons, List.not_mem_nil, or_false] at hz
   rcases hz with rfl | rfl
   ·omega
   ·exact h1.low hq
 ·rcases List.mem_append.1 hv with hv | hv
  ·rcases h1.holds v hv with h2 | ⟨h2, _⟩
   ·exact Or.inl (by rw [hev v hv, hτ v.num (List.mem_map_of_mem hv)]; exact h2)
   ·cases h2
  ·rw [List.mem_singleton.1 hv]
   unfold Code.HoldsV
   by_cases e : w = 0
   ·exact Or.inr ⟨decide_eq_true e, rfl, by rw [hdv, if_pos e]⟩
   ·refine Or.inl ?_
    rw [hdv, if_neg e]
    show some (wrap32 (x.tdiv w)) = some (if 58 = 58 then (if w = 0 then 0 else wrap32 (x.tdiv w)) else out.getD 58 0)
    rw [if_pos rfl, if_neg e]
 ·refine ⟨_, List.mem_append_right _ (List.mem_cons_self ..), rfl, ?_⟩
  rw [hdv, if_pos (of_decide_eq_true ht)]
 ·show -2147483648 <= (if n = 58 then (if w = 0 then 0 else wrap32 (x.tdiv w)) else out.getD n 0) /\ (if n = 58 then (if w = 0 then 0 else wrap32 (x.tdiv w)) else out.getD n 0) < 2147483648
  split
  ·split
   ·omega
   ·exact w32_in32 _
  ·exact h1.rng n
theorem made_text {x y : Int} {l : List Code.Val} {out : List Int} {m : Nat} (h : MadeOk x y l out m) (hm : m <= 40) : Code.wrF 2 [⟨l, .ret (l.length - 1)⟩] = madeText l /\ madeText l = hdr ++ Code.linesOf l ++ ([114, 101, 116, 32, 118] ++ dec (l.length - 1) ++ [10]) := by
 refine ⟨Code.wrF_one (h.ok1 hm).good, ?_⟩
 unfold madeText Code.oneBlock hdr
 simp
theorem div_text {x y : Int} {l : List Code.Val} {out : List Int} {m : Nat} (h : MadeOk x y l out m) (hm : m <= 40) (hx : -2147483648 <= x /\ x < 2147483648) : Code.wrF 2 [⟨divL l, .ret 0⟩] = hdr ++ Code.linesOf l ++ [118, 53, 56, 32, 61, 32, 100, 105, 118, 32, 118, 48, 32, 118] ++ dec (l.length - 1) ++ [10, 114, 101, 116, 32, 118, 48, 10] := by
 obtain ⟨τ, h1, _⟩ := h.div hm hx
 rw [Code.wrF_one h1.good]
 have e0 : dec 0 = [48] := rfl
 have e2 : dec 2 = [50] := rfl
 have e58 : dec 58 = [53, 56] := rfl
 unfold Code.oneBlock divL hdr
 simp [Code.linesOf, Code.lineOf, Code.textT, Code.ofText, e0, e2, e58, show Code.nameOf 3 = [100, 105, 118] from rfl]
open Go.Proofs.YtedkjanogjglkaaGreatDoor.Code (RTree Nm RSt Prs CRule Pair)
theorem catchF_idle (p : Addr) (w : World) :
  CallsD Tryz.prog 73 #[.pointer (some p)] .returning w fun e u' w' => e = .returned (.tuple #[]) /\ u' = .returning /\ w' = w := by
 refine callsD_of_wpS Tryz.func73 rfl fun c₀ cs hu => ?_
 apply wpS_seq
 apply wpS_region
 simp [wpOpsS, go_sem, recoverD, hu, Tryz.ntmps73, Exit.thenS]
 apply wpS_seq
 apply wpS_region
 simp [wpOpsS, go_sem, nilNe, Exit.thenS]
 refine wpS_cond (t := false) (by simp [Act.eval, Array.replicate]) ?_
 simp only [Bool.false_eq_true, if_false]
 refine wpS_of_wp (wp_skip ?_)
 cases c₀
 simp_all [bodyPostS, results, Tryz.results73]
theorem faceF_ok (s : List UInt8) (f : Code.Fn) (w : World) (hs : s.length <= 1500) (ht : Tab w) (hf : Code.FnIs s f) (hr : Code.Right f.blocks) :
  Calls Tryz.prog 36 #[.func (.func 37) #[] #[], .string (bs s)] w fun e w' => ∃ p c, e = .returned (.tuple #[.agg #[.int .i64 (f.args : Nat), .slice p f.blocks.length c], .agg #[.int .i64 0, .int .i64 0]]) /\ RepBlks w' 0 (.slice p f.blocks.length c) f.blocks /\ Below w.heap.size w w' := by
 have hmf : ∀ (fn : Fn) (first cap : Array Value) (w : World), (Instr.makeFunc fn first cap).run Tryz.prog w = .ok (.func fn first cap) w := fun _ _ _ _ => rfl
 have HRD : Hid (∀ w1, Below w.heap.size w w1 -> Calls Tryz.prog 37 #[.string (bs s)] w1 fun e w' => ∃ p c, e = .returned (.agg #[.int .i64 (f.args : Nat), .slice p f.blocks.length c]) /\ RepBlks w' 0 (.slice p f.blocks.length c) f.blocks /\ Below w1.heap.size w1 w') := hide fun w1 h1 => (read_ok s f w1 hs (ht.below h1) hf hr).mono fun e w' ⟨p, c, h2, h3, h4⟩ => ⟨p, c, h2, h3.mono (fun _ _ _ h => own_base h (Nat.zero_le _)) (fun _ _ _ h => own_base h (Nat.zero_le _)) (fun _ _ _ h => own_base h (Nat.zero_le _)), h4⟩
 clear ht hf hr
 go_enter_defers Tryz.func36, Tryz.ntmps36
 go_wp2_with fail
 have hx0 : ((w.alloc (.cells #[.int .i64 0, .slice none 0 0] 78)).alloc (.cells #[.int .i64 0, .int .i64 0] 61)).heap[w.heap.size]? = some (.cells #[.int .i64 0, .slice none 0 0] 78) := stay_alloc (heap_alloc_new w _)
 have hy0 := heap_alloc_new (w.alloc (.cells #[.int .i64 0, .slice none 0 0] 78)) (.cells #[.int .i64 0, .int .i64 0] 61)
 rw [alloc_size] at hy0
 have hb0 : Below w.heap.size w ((w.alloc (.cells #[.int .i64 0, .slice none 0 0] 78)).alloc (.cells #[.int .i64 0, .int .i64 0] 61)) := below_al (below_al (Below.refl _ _) _) _
 generalize (w.alloc (.cells #[.int .i64 0, .slice none 0 0] 78)).alloc (.cells #[.int .i64 0, .int .i64 0] 61) = w0 at *
 refine (HRD.out w0 hb0).mono ?_
 rintro e w1 ⟨p, c, rfl, hrep, hb1⟩
 have hx1 := (hb1.block _ (lt_of_block hx0)).trans hx0
 have hy1 := (hb1.block _ (lt_of_block hy0)).trans hy0
 have hbw1 : Below w.heap.size w w1 := hb0.trans (hb1.mono hb0.size)
 have HREP := hide hrep
 have c0 := blk_cell hx1 0 _ rfl
 have c1 := blk_cell hx1 1 _ rfl
 have g0 := blk_froz hx1 0
 have g1 := blk_froz hx1 1
 have d0 := blk_cell hy1 0 _ rfl
 have d1 := blk_cell hy1 1 _ rfl
 have f0 := blk_froz hy1 0
 have f1 := blk_froz hy1 1
 clear hrep
 go_wp2
 refine leaves_cons (f := 73) (args := #[.pointer (some ⟨w.heap.size + 1, 0, none⟩)]) (by simp) (by simp [go_sem]) ?_
 refine (catchF_idle ⟨w.heap.size + 1, 0, none⟩ _).mono ?_
 rintro e u' w'' ⟨rfl, rfl, rfl⟩
 have hx2 := set_block (o := 1) (v := .slice p f.blocks.length c) (set_block (o := 0) (v := .int .i64 (f.args : Nat)) hx1)
 have hy2 := stay_set (a := ⟨w.heap.size, 1, none⟩) (v := .slice p f.blocks.length c) (stay_set (a := ⟨w.heap.size, 0, none⟩) (v := .int .i64 (f.args : Nat)) hy1 (show w.heap.size + 1 ≠ w.heap.size by omega)) (show w.heap.size + 1 ≠ w.heap.size by omega)
 have hy3 := set_block (o := 1) (v := .int .i64 0) (set_block (o := 0) (v := .int .i64 0) hy2)
 have hx3 := stay_set (a := ⟨w.heap.size + 1, 1, none⟩) (v := .int .i64 0) (stay_set (a := ⟨w.heap.size + 1, 0, none⟩) (v := .int .i64 0) hx2 (show w.heap.size ≠ w.heap.size + 1 by omega)) (show w.heap.size ≠ w.heap.size + 1 by omega)
 have hr2 := (HREP.out.set (o := 0) (u := .int .i64 (f.args : Nat)) hx1 (by decide) (by decide) (by decide)).set (o := 1) (u := .slice p f.blocks.length c) (set_block hx1) (by decide) (by decide) (by decide)
 have hr3 := (hr2.set (o := 0) (u := .int .i64 0) hy2 (by decide) (by decide) (by decide)).set (o := 1) (u := .int .i64 0) (set_block hy2) (by decide) (by decide) (by decide)
 have hb3 : Below w.heap.size w ((((w1.setCell ⟨w.heap.size, 0, none⟩ (.int .i64 (f.args : Nat))).setCell ⟨w.heap.size, 1, none⟩ (.slice p f.blocks.length c)).setCell ⟨w.heap.size + 1, 0, none⟩ (.int .i64 0)).setCell ⟨w.heap.size + 1, 1, none⟩ (.int .i64 0)) := below_set (below_set (below_set (below_set hbw1 (Nat.le_refl _) _ _) (Nat.le_refl _) _ _) (by omega) _ _) (by omega) _ _
 have e0 := blk_cell hx3 0 (.int .i64 (f.args : Nat)) rfl
 have e1 := blk_cell hx3 1 (.slice p f.blocks.length c) rfl
 have e2 := blk_cell hy3 0 (.int .i64 0) rfl
 have e3 := blk_cell hy3 1 (.int .i64 0) rfl
 generalize (((w1.setCell ⟨w.heap.size, 0, none⟩ (.int .i64 (f.args : Nat))).setCell ⟨w.heap.size, 1, none⟩ (.slice p f.blocks.length c)).setCell ⟨w.heap.size + 1, 0, none⟩ (.int .i64 0)).setCell ⟨w.heap.size + 1, 1, none⟩ (.int .i64 0) = w5 at *
 refine ⟨.tuple #[.agg #[.int .i64 (f.args : Nat), .slice p f.blocks.length c], .agg #[.int .i64 0, .int .i64 0]], by simp [results, Tryz.results36, go_sem, e0, e1, e2, e3], ?_⟩
 exact ⟨p, c, rfl, hr3, hb3⟩
theorem chiselRewrite_given (rs ts : List UInt8) (picks : List Int) (l : List CRule) (f : Code.Fn) (out : List Code.Blk) (m : Nat) (er : Int) (pv : Value) (w : World) (hro : RulesAre rs (.ok l)) (hRin : ∀ R ∈ l, RuleIn R) (hRl : l.length <= 3000) (hlen : ts.length <= 1500) (hf : Code.FnIs ts f) (hr : Code.Right f.blocks) (hfine : Code.Fine f.blocks) (hfo : Code.NiceB out) (hargs : f.args < 1000) (hrew : Code.RewS f.args l picks 0 f.blocks out m er) (hmm : m <= 1000000) (hp : PicksAt w pv picks) (hin : ∀ p ∈ picks, -9223372036854775808 <= p /\ p <= 9223372036854775807) (hi : TabI w) (ht : Tab w) (hw : 0 < w.heap.size) :
  Calls Tryz.prog 16 #[.string (bs rs), .string (bs ts), pv] w fun e w' => e = .returned (.tuple #[.string (bs (Code.wrF f.args out)), .int .i64 (m : Nat), .int .i64 er]) /\ Below w.heap.size w w' := by
 have HFR := hide (faceR_any rs _ hro w ht hw)
 have HFF : Hid (∀ w1, Below w.heap.size w w1 -> Calls Tryz.prog 36 #[.func (.func 37) #[] #[], .string (bs ts)] w1 fun e w' => ∃ p c, e = .returned (.tuple #[.agg #[.int .i64 (f.args : Nat), .slice p f.blocks.length c], .agg #[.int .i64 0, .int .i64 0]]) /\ RepBlks w' 0 (.slice p f.blocks.length c) f.blocks /\ Below w1.heap.size w1 w') := hide fun w1 h1 => faceF_ok ts f w1 hlen (ht.below h1) hf hr
 have HRW : Hid (∀ w4 rsv p c, Below w.heap.size w w4 -> RepRules w4 0 rsv l -> RepBlks w4 0 (.slice p f.blocks.length c) f.blocks -> Calls Tryz.prog 38 #[rsv, .agg #[.int .i64 (f.args : Nat), .slice p f.blocks.length c], pv] w4 fun e w' => ∃ p' c', e = .returned (.tuple #[.agg #[.int .i64 (f.args : Nat), .slice p' out.length c'], .int .i64 (m : Nat), .int .i64 er]) /\ RepBlks w' 0 (.slice p' out.length c') out /\ Below w4.heap.size w4 w') := hide fun w4 rsv p c h4 h5 h6 => rewrite_any f.args l picks f.blocks out m er _ _ p c w4 h5 hRl hRin (hp.below h4) hin h6 hfine hargs (hi.below h4) (ht.below h4) hrew hmm
 have HTX : Hid (∀ w4 p' c', Below w.heap.size w w4 -> RepBlks w4 0 (.slice p' out.length c') out -> Calls Tryz.prog 39 #[.agg #[.int .i64 (f.args : Nat), .slice p' out.length c']] w4 fun e w' => e = .returned (.string (bs (Code.wrF f.args out))) /\ Below w4.heap.size w4 w') := hide fun w4 p' c' h4 h5 => text_any f.args out p' c' w4 h5 hfo hargs (hi.below h4) (ht.below h4)
 obtain ⟨pp, pc, rfl, _⟩ := hp
 generalize Code.wrF f.args out = TO at *
 clear hro hi ht hin hf hr hfine hrew hfo hRin hlen
 go_enter Tryz.func16, Tryz.ntmps16
 go_wp2_with fail
 refine HFR.out.mono ?_
 rintro e w1 ⟨⟨l', v, hor, rfl, hrep⟩ | ⟨n, why, hor, rfl⟩, hb1⟩
 ·simp only [Except.ok.injEq] at hor
  subst hor
  have HREP : Hid (RepRules w1 0 v l) := hide (hrep.mono (fun _ _ _ h => own_base h (Nat.zero_le _)) (fun b C T z h _ _ => h) (Nat.zero_le _))
  obtain ⟨cs, hcs, _⟩ := hrep
  obtain ⟨vp, vc, rfl⟩ := own_slice hcs
  clear hcs HFR
  go_wp2_with fail
  have hx2 := heap_alloc_new w1 (.cells #[.int .i64 0, .int .i64 0] 61)
  have hb12 := below_al (Below.refl w1.heap.size w1) (.cells #[.int .i64 0, .int .i64 0] 61)
  have hb2 := hb1.trans (hb12.mono hb1.size)
  have HREP2 := hide (HREP.out.below hb12)
  generalize w1.alloc (.cells #[.int .i64 0, .int .i64 0] 61) = w2 at *
  have hgf := hb1.size
  generalize w1.heap.size = gf at *
  refine (HFF.out w2 hb2).mono ?_
  rintro e w3 ⟨p, c, rfl, hrepf, hb3⟩
  have hx3 := (hb3.block _ (lt_of_block hx2)).trans hx2
  have hbw3 := hb2.trans (hb3.mono hb2.size)
  have HREP3 := hide (HREP2.out.below hb3)
  have HRF := hide hrepf
  have q0 := blk_cell hx3 0 _ rfl
  have q1 := blk_cell hx3 1 _ rfl
  have z0 := blk_froz hx3 0
  have z1 := blk_froz hx3 1
  have hl3 := lt_of_block hx3
  clear hrepf HREP HREP2 hx2 hb2 hb3 hb12 hb1
  go_wp2_with fail
  have hbw4 : Below w.heap.size w (((w3.setCell ⟨gf, 0, none⟩ (.int .i64 0)).setCell ⟨gf, 1, none⟩ (.int .i64 0)).alloc (.cells #[.int .i64 (f.args : Nat), .slice p f.blocks.length c] 78)) := below_al (below_set (below_set hbw3 hgf _ _) hgf _ _) _
  have hal := below_al (Below.refl _ ((w3.setCell ⟨gf, 0, none⟩ (.int .i64 0)).setCell ⟨gf, 1, none⟩ (.int .i64 0))) (.cells #[.int .i64 (f.args : Nat), .slice p f.blocks.length c] 78)
  have HREP4 := hide (((HREP3.out.setF (o := 0) (u := .int .i64 0) hx3).setF (o := 1) (u := .int .i64 0) (set_block hx3)).below hal)
  have HRF4 := hide (((HRF.out.set (o := 0) (u := .int .i64 0) hx3 (by decide) (by decide) (by decide)).set (o := 1) (u := .int .i64 0) (set_block hx3) (by decide) (by decide) (by decide)).below hal)
  generalize ((w3.setCell ⟨gf, 0, none⟩ (.int .i64 0)).setCell ⟨gf, 1, none⟩ (.int .i64 0)).alloc (.cells #[.int .i64 (f.args : Nat), .slice p f.blocks.length c] 78) = w4 at *
  clear q0 q1 z0 z1 hl3 hx3 hbw3 HREP3 HRF hal
  refine (HRW.out w4 _ p c hbw4 HREP4.out HRF4.out).mono ?_
  rintro e w5 ⟨p', c', rfl, hrep5, hb5⟩
  have hbw5 := hbw4.trans (hb5.mono hbw4.size)
  have HR5 := hide hrep5
  clear hrep5
  go_wp2_with fail
  have hal := below_al (Below.refl w5.heap.size w5) (.cells #[.int .i64 (f.args : Nat), .slice p' out.length c'] 78)
  refine (HTX.out _ p' c' (hbw5.trans (hal.mono hbw5.size)) (HR5.out.below hal)).mono ?_
  rintro e w6 ⟨rfl, hb6⟩
  have hbw6 : Below w.heap.size w w6 := (hbw5.trans (hal.mono hbw5.size)).trans (hb6.mono (hbw5.trans (hal.mono hbw5.size)).size)
  go_wp2
  refine bodyPost_ret (v := .tuple #[.string (bs TO), .int .i64 (m : Nat), .int .i64 er]) (by simp [results, Tryz.results16]) rfl ?_
  exact ⟨rfl, hbw6⟩
 ·cases hor
namespace Code
def rulesC : Nat -> List UInt8 -> Option (List CRule)
 | 0, _ => none
 | f + 1, s => if s = [] then some [] else if 10 ∈ s /\ ¬ idle (headOf s) then (match lineS (headOf s) with
  | .ok (n, r, ns) => (rulesC f (nextOf s)).map fun l => ⟨n, r, ns⟩ :: l
  | .error _ => none) else none
theorem rulesC_ok : ∀ (f : Nat) (s : List UInt8) (n : Nat) (l : List CRule), rulesC f s = some l -> RulesS n s (.ok l) /\ ∀ R ∈ l, RuleOk R
 | 0, _, _, _, h => by cases h
 | f + 1, s, n, l, h => by
  unfold rulesC at h
  split at h
  ·rename_i e
   simp only [Option.some.injEq] at h
   subst h e
   exact ⟨.done, fun R hR => by cases hR⟩
  ·split at h
   ·rename_i hc
    cases hl : lineS (headOf s) with
    | error e => rw [hl] at h; cases h
    | ok q =>
     obtain ⟨nd, rs, ns⟩ := q
     rw [hl] at h
     simp only [Option.map_eq_some_iff] at h
     obtain ⟨l', h1, rfl⟩ := h
     obtain ⟨h2, h3⟩ := rulesC_ok f (nextOf s) (n + 1) l' h1
     refine ⟨RulesS.more (o := .ok l') hc.1 hc.2 hl h2, fun R hR => ?_⟩
     rcases List.mem_cons.1 hR with rfl | hR
     ·exact lineS_rule hl
     ·exact h3 R hR
   ·cases h
def stdText : List UInt8 := [40, 97, 100, 100, 32, 35, 97, 32, 35, 98, 41, 32, 61, 62, 32, 33, 40, 97, 100, 100, 32, 35, 97, 32, 35, 98, 41, 10, 40, 115, 117, 98, 32, 35, 97, 32, 35, 98, 41, 32, 61, 62, 32, 33, 40, 115, 117, 98, 32, 35, 97, 32, 35, 98, 41, 10, 40, 109, 117, 108, 32, 35, 97, 32, 35, 98, 41, 32, 61, 62, 32, 33, 40, 109, 117, 108, 32, 35, 97, 32, 35, 98, 41, 10, 40, 97, 110, 100, 32, 35, 97, 32, 35, 98, 41, 32, 61, 62, 32, 33, 40, 97, 110, 100, 32, 35, 97, 32, 35, 98, 41, 10, 40, 111, 114, 32, 35, 97, 32, 35, 98, 41, 32, 61, 62, 32, 33, 40, 111, 114, 32, 35, 97, 32, 35, 98, 41, 10, 40, 120, 111, 114, 32, 35, 97, 32, 35, 98, 41, 32, 61, 62, 32, 33, 40, 120, 111, 114, 32, 35, 97, 32, 35, 98, 41, 10, 40, 115, 104, 108, 32, 35, 97, 32, 35, 98, 41, 32, 61, 62, 32, 33, 40, 115, 104, 108, 32, 35, 97, 32, 35, 98, 41, 10, 40, 115, 104, 114, 32, 35, 97, 32, 35, 98, 41, 32, 61, 62, 32, 33, 40, 115, 104, 114, 32, 35, 97, 32, 35, 98, 41, 10, 40, 101, 113, 32, 35, 97, 32, 35, 98, 41, 32, 61, 62, 32, 33, 40, 101, 113, 32, 35, 97, 32, 35, 98, 41, 10, 40, 108, 116, 32, 35, 97, 32, 35, 98, 41, 32, 61, 62, 32, 33, 40, 108, 116, 32, 35, 97, 32, 35, 98, 41, 10, 40, 110, 101, 103, 32, 35, 97, 41, 32, 61, 62, 32, 33, 40, 110, 101, 103, 32, 35, 97, 41, 10, 40, 110, 111, 116, 32, 35, 97, 41, 32, 61, 62, 32, 33, 40, 110, 111, 116, 32, 35, 97, 41, 10, 40, 115, 117, 98, 32, 120, 32, 120, 41, 32, 61, 62, 32, 48, 10, 40, 97, 110, 100, 32, 120, 32, 120, 41, 32, 61, 62, 32, 120, 10, 40, 111, 114, 32, 120, 32, 120, 41, 32, 61, 62, 32, 120, 10, 40, 120, 111, 114, 32, 120, 32, 120, 41, 32, 61, 62, 32, 48, 10, 40, 101, 113, 32, 120, 32, 120, 41, 32, 61, 62, 32, 49, 10, 40, 108, 116, 32, 120, 32, 120, 41, 32, 61, 62, 32, 48, 10, 40, 110, 101, 103, 32, 40, 110, 101, 103, 32, 120, 41, 41, 32, 61, 62, 32, 120, 10, 40, 110, 111, 116, 32, 40, 110, 111, 116, 32, 120, 41, 41, 32, 61, 62, 32, 120, 10, 40, 97, 100, 100, 32, 120, 32, 48, 41, 32, 61, 62, 32, 120, 10, 40, 97, 100, 100, 32, 48, 32, 120, 41, 32, 61, 62, 32, 120, 10, 40, 115, 117, 98, 32, 120, 32, 48, 41, 32, 61, 62, 32, 120, 10, 40, 115, 117, 98, 32, 48, 32, 120, 41, 32, 61, 62, 32, 40, 110, 101, 103, 32, 120, 41, 10, 40, 109, 117, 108, 32, 120, 32, 48, 41, 32, 61, 62, 32, 48, 10, 40, 109, 117, 108, 32, 48, 32, 120, 41, 32, 61, 62, 32, 48, 10, 40, 109, 117, 108, 32, 120, 32, 49, 41, 32, 61, 62, 32, 120, 10, 40, 109, 117, 108, 32, 49, 32, 120, 41, 32, 61, 62, 32, 120, 10, 40, 109, 117, 108, 32, 120, 32, 56, 41, 32, 61, 62, 32, 40, 115, 104, 108, 32, 120, 32, 51, 41, 10, 40, 97, 110, 100, 32, 120, 32, 48, 41, 32, 61, 62, 32, 48, 10, 40, 111, 114, 32, 120, 32, 48, 41, 32, 61, 62, 32, 120, 10, 40, 120, 111, 114, 32, 120, 32, 48, 41, 32, 61, 62, 32, 120, 10, 40, 115, 104, 108, 32, 120, 32, 48, 41, 32, 61, 62, 32, 120, 10, 40, 115, 104, 114, 32, 120, 32, 48, 41, 32, 61, 62, 32, 120, 10]
theorem stdC : rulesC 40 stdText = some stdRules := by kernel_rfl
end Code
theorem stdAre : RulesAre Code.stdText (.ok Code.stdRules) := Or.inr ⟨of_decide_eq_true (by kernel_rfl), (Code.rulesC_ok 40 _ 1 _ Code.stdC).1⟩
theorem stdFew : Code.stdRules.all (fun R => decide (R.names.length <= 6000)) = true := by kernel_rfl
theorem stdIn : ∀ R ∈ Code.stdRules, RuleIn R := fun R hR => ⟨(Code.rulesC_ok 40 _ 1 _ Code.stdC).2 R hR, of_decide_eq_true (List.all_eq_true.1 stdFew R hR)⟩
theorem sdRewrite {A : List Int} {t d : Bool} {σ : Nat -> Int} {vs : List Code.Val} {r : Nat} (h : Code.Ok1 A.length A t d σ vs r) (ha : A.length < 5) (hl : (Code.wrF A.length [⟨vs, .ret r⟩]).length <= 1500) (picks : List Int) (pv : Value) (w : World) (hp : PicksAt w pv picks) (hin : ∀ p ∈ picks, -9223372036854775808 <= p /\ p <= 9223372036854775807) (hi : TabI w) (ht : Tab w) (hw : 0 < w.heap.size) :
  Calls Tryz.prog 16 #[.string (bs Code.stdText), .string (bs (Code.wrF A.length [⟨vs, .ret r⟩])), pv] w fun e w' => (∃ vs' r' σ' m er, e = .returned (.tuple #[.string (bs (Code.wrF A.length [⟨vs', .ret r'⟩])), .int .i64 ((m : Nat) : Int), .int .i64 er]) /\ Code.Ok1 A.length A t d σ' vs' r' /\ σ' r' = σ r /\ (Code.wrF A.length [⟨vs', .ret r'⟩]).length <= 1500 /\ (er = 0 \/ er = 9) /\ Code.RewS A.length Code.stdRules picks 0 [⟨vs, .ret r⟩] [⟨vs', .ret r'⟩] m er) /\ Below w.heap.size w w' := by
 have hfine := h.fine ha
 obtain ⟨out, m, er, hrew, hm, hfo⟩ := Code.rewS_exists A.length Code.stdRules picks (fun R hR => (stdIn R hR).ok) 160000 [⟨vs, .ret r⟩] 0 hfine.good.sum hfine
 obtain ⟨vs', r', σ', rfl, h1, h2, h3, h4⟩ := Code.ok1_rew hrew rfl h hl
 refine (chiselRewrite_given Code.stdText _ picks Code.stdRules ⟨A.length, [⟨vs, .ret r⟩]⟩ [⟨vs', .ret r'⟩] m er pv w stdAre stdIn (by decide) hl (h.fn ha) h.right hfine hfo.good (by show A.length < 1000; omega) hrew (by omega) hp hin hi ht hw).mono ?_
 rintro e w' ⟨rfl, hb⟩
 exact ⟨⟨vs', r', σ', m, er, rfl, h1, h2, h3, h4, hrew⟩, hb⟩
namespace Code
def rulesM : List UInt8 := [40, 109, 117, 108, 32, 120, 32, 56, 41, 32, 61, 62, 32, 40, 115, 104, 108, 32, 120, 32, 51, 41, 10]
def moved : List UInt8 := [102, 117, 110, 99, 32, 49, 10, 98, 48, 58, 10, 118, 48, 32, 61, 32, 97, 114, 103, 32, 48, 10, 118, 51, 32, 61, 32, 99, 111, 110, 115, 116, 32, 51, 10, 118, 50, 32, 61, 32, 115, 104, 108, 32, 118, 48, 32, 118, 51, 10, 114, 101, 116, 32, 118, 50, 10]
def ruleM : CRule := rX 2 [nX, .num 8] (.op 7 [nX, .num 3])
def fnM : List Blk := [⟨[⟨0, .arg 0⟩, ⟨3, .const 3⟩, ⟨2, .apply 7 [0, 3]⟩], .ret 2⟩]
theorem mC : rulesC 2 rulesM = some [ruleM] := by kernel_rfl
end Code
theorem rewM : Code.RewS 1 [Code.ruleM] [] 0 Code.fnW1.blocks Code.fnM 1 0 :=
 .next (p := ⟨0, 2, Code.ruleM⟩) (by kernel_rfl) (by kernel_rfl) (.done (by kernel_rfl))
theorem niceW1 : Code.NiceB Code.fnW1.blocks := by
 refine ⟨by decide, by decide, ?_, ?_⟩
 ·simp [Code.fnW1, Code.NiceV, Code.NiceT]
  decide
 ·simp [Code.fnW1, Code.NiceL]
theorem niceM : Code.NiceB Code.fnM := by
 refine ⟨by decide, by decide, ?_, ?_⟩
 ·simp [Code.fnM, Code.NiceV, Code.NiceT]
  decide
 ·simp [Code.fnM, Code.NiceL]
theorem picksNone (w : World) : PicksAt w (.slice none 0 0) [] := ⟨none, 0, rfl, fun j h => by simp at h⟩
theorem rewriteG (w : World) (hi : TabI w) (ht : Tab w) (hw : 0 < w.heap.size) : Calls Tryz.prog 16 #[.string (bs Code.rulesM), .string (bs Code.textW1), .slice none 0 0] w fun e w' => e = .returned (.tuple #[.string (bs Code.moved), .int .i64 1, .int .i64 0]) /\ Below w.heap.size w w' := by
 have hc := Code.rulesC_ok 2 _ 1 _ Code.mC
 have hin : ∀ R ∈ [Code.ruleM], RuleIn R := fun R hR => ⟨hc.2 R hR, by rw [List.mem_singleton.1 hR]; decide⟩
 have h := chiselRewrite_given Code.rulesM Code.textW1 [] [Code.ruleM] Code.fnW1 Code.fnM 1 0 (.slice none 0 0) w (Or.inr ⟨by decide, hc.1⟩) hin (by decide) (by decide) Code.isW1 Code.rightW1 ⟨niceW1, by unfold Code.OnceN; decide⟩ niceM (by decide) rewM (by omega) (picksNone w) (by simp) hi ht hw
 have e : Code.wrF Code.fnW1.args Code.fnM = Code.moved := by kernel_rfl
 rw [e] at h
 exact h
theorem keepRules_any (w : World) (hi : TabI w) (ht : Tab w) : Calls Tryz.prog 15 #[] w fun e w' => e = .returned (.bool true) /\ Below w.heap.size w w' := by
 have hp := ht.pos
 have HR := hide (rewriteG w hi ht hp)
 clear hi ht
 go_enter Tryz.func15, Tryz.ntmps15
 go_wp2_with fail
 refine HR.out.mono ?_
 rintro e w1 ⟨rfl, hb1⟩
 have hq : ((bs Code.moved).toList == [102, 117, 110, 99, 32, 49, 10, 98, 48, 58, 10, 118, 48, 32, 61, 32, 97, 114, 103, 32, 48, 10, 118, 51, 32, 61, 32, 99, 111, 110, 115, 116, 32, 51, 10, 118, 50, 32, 61, 32, 115, 104, 108, 32, 118, 48, 32, 118, 51, 10, 114, 101, 116, 32, 118, 50, 10]) = true := by
  rw [ByteArray.toList_eq]
  kernel_rfl
 generalize bs Code.moved = mv at *
 go_wp2
 go_ret
 exact ⟨rfl, hb1⟩
theorem standard_any (w : World) : Calls Tryz.prog 18 #[] w fun e w' => e = .returned (.string (bs Code.stdText)) /\ w' = w := by
 go_enter Tryz.func18, Tryz.ntmps18
 go_wp2
 go_ret
 exact ⟨rfl, rfl⟩
end Go.Proofs.YtedkjanogjglkaaGreatDoor
