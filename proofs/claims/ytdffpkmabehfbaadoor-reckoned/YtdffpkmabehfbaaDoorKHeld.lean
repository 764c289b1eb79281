/-
  Functions of one block, numbered in order, are right, and run.
-/
import Derived.Test.YtdffpkmabehfbaaDoorKLine
import Derived.Test.YtdffpkmabehfbaaDoorCIrRun
import Derived.Test.YtdffpkmabehfbaaDoorKReckon
import Derived.Test.YtdffpkmabehfbaaDoorBase
import Derived.Deep.RegionHeld3
namespace Go.Proofs.YtdffpkmabehfbaaDoor
open Go.RowKit
namespace Code

/-- Values that are numbered in order, each of lower ones. -/
def Seq : Nat → List Val → Prop
  | _, [] => True
  | k, v :: l => v.num = k ∧ (∀ x ∈ useT v.thing, x < k) ∧ Seq (k + 1) l

theorem Seq.snoc : ∀ {k : Nat} {l : List Val} {v : Val}, Seq k l → v.num = k + l.length → (∀ x ∈ useT v.thing, x < k + l.length) → Seq k (l ++ [v])
  | k, [], v, _, h1, h2 => ⟨h1, h2, trivial⟩
  | k, u :: l, v, h, h1, h2 => by
    refine ⟨h.1, h.2.1, Seq.snoc h.2.2 (by rw [h1, List.length_cons]; omega) (fun x hx => ?_)⟩
    have := h2 x hx
    rw [List.length_cons] at this
    omega

theorem Seq.nums : ∀ {k : Nat} {l : List Val}, Seq k l → nums l = List.range' k l.length
  | k, [], _ => rfl
  | k, v :: l, h => by
    have ih := Seq.nums h.2.2
    show v.num :: Code.nums l = k :: List.range' (k + 1) l.length
    rw [h.1, ih]

theorem Seq.mem : ∀ {k : Nat} {l : List Val}, Seq k l → ∀ v ∈ l, k ≤ v.num ∧ v.num < k + l.length ∧ ∀ x ∈ useT v.thing, x < v.num
  | k, [], _, v, hv => by cases hv
  | k, u :: l, h, v, hv => by
    rcases List.mem_cons.1 hv with rfl | hv
    · have h1 := h.1
      refine ⟨by omega, by rw [List.length_cons]; omega, fun x hx => by have := h.2.1 x hx; omega⟩
    · obtain ⟨h1, h2, h3⟩ := Seq.mem h.2.2 v hv
      exact ⟨by omega, by rw [List.length_cons]; omega, h3⟩

theorem hasAll_of {R : List Bool} {of : List Nat} (h : ∀ x ∈ of, R.getD x false = true) : hasAll R of = true := List.all_eq_true.2 h

theorem getD_set_self {R : List Bool} {k : Nat} (h : k < R.length) : (R.set k true).getD k false = true := by
  rw [List.getD_eq_getElem?_getD, List.getElem?_set_self h]; rfl

theorem Seq.vals : ∀ {k : Nat} {l : List Val} {R : List Bool}, Seq k l → R.length = 60 → k + l.length ≤ 60 → (∀ x, x < k → R.getD x false = true) →
    ValsOk R l ∧ ∀ x, x < k + l.length → (addAll R l).getD x false = true
  | k, [], R, _, _, _, h => ⟨trivial, h⟩
  | k, v :: l, R, hs, hR, hl, h => by
    rw [List.length_cons] at hl
    have ih := Seq.vals (R := R.set v.num true) hs.2.2 (by simp [hR]) (by omega) (fun x hx => by
      rw [hs.1]
      by_cases e : x = k
      · subst e; exact getD_set_self (by omega)
      · rw [set_getD _ _ _ e]; exact h x (by omega))
    refine ⟨⟨hasAll_of (fun x hx => h x (hs.2.1 x hx)), ih.1⟩, fun x hx => ?_⟩
    rw [List.length_cons] at hx
    exact ih.2 x (by omega)

theorem useT_len {args : Nat} {t : Thing} (h : GoodT args t) : (useT t).length ≤ 100000 := by
  cases t with
  | apply k of =>
    have h2 : of.length = opOf k := h.2.1
    have h3 : opOf k ≤ 100000 := by
      have hk := h.1
      revert hk
      generalize k = j
      intro hk
      match j, hk with
      | 0, _ | 1, _ | 2, _ | 3, _ | 4, _ | 5, _ | 6, _ | 7, _ | 8, _ | 9, _ | 10, _ | 11, _ | 12, _ => decide
    show of.length ≤ 100000
    omega
  | _ => exact Nat.zero_le _

theorem one_right {args : Nat} {l : List Val} {v : Nat} (hs : Seq 0 l) (hg : ∀ x ∈ l, GoodT args x.thing) (hl : l.length ≤ 60) (hv : v < l.length) : Right [⟨l, .ret v⟩] where
  most := by show 1 ≤ 8; omega
  some := by show 0 < 1; omega
  small := by
    intro b hb
    obtain rfl := List.mem_singleton.1 hb
    refine ⟨by show l.length ≤ 100000; omega, fun x hx => ?_, by show 1 ≤ 100000; omega, fun x hx => ?_⟩
    · obtain ⟨_, h2, h3⟩ := hs.mem x hx
      exact ⟨by omega, useT_len (hg x hx), fun y hy => by have := h3 y hy; omega⟩
    · have : x = v := List.mem_singleton.1 hx
      omega
  once := by
    refine ⟨⟨?_, fun x hx => ?_⟩, trivial⟩
    · show (nums l).Nodup
      rw [hs.nums]; exact List.nodup_range'
    · show noNumber.getD x false = false
      unfold noNumber
      rw [List.getD_eq_getElem?_getD, List.getElem?_replicate]
      split <;> rfl
  goes := by
    intro b hb t ht
    obtain rfl := List.mem_singleton.1 hb
    cases ht
  reached := rfl
  phis := by
    intro j hj x hx of ho
    obtain rfl : j = 0 := by simp only [List.length_cons, List.length_nil] at hj; omega
    have := hg x hx
    rw [ho] at this
    exact absurd this id
  ahead := by
    intro A hA h60 _
    intro j hj hj'
    obtain rfl : j = 0 := by simp only [List.length_cons, List.length_nil] at hj; omega
    have hR : (A[0]'hj').length = 60 := h60 _ (List.getElem_mem hj')
    obtain ⟨h1, h2⟩ := hs.vals hR (by omega) (fun x hx => by omega)
    refine ⟨h1, hasAll_of (fun x hx => ?_), fun k hk => ?_⟩
    · have : x = v := List.mem_singleton.1 hx
      exact h2 x (by omega)
    · exact absurd hk (Nat.not_lt_zero _)

theorem one_runs {args : List Int} {l : List Val} {v : Nat} (hs : Seq 0 l) (hg : ∀ x ∈ l, GoodT args.length x.thing) (hl : l.length ≤ 60) (hv : v < l.length) : Runs args [⟨l, .ret v⟩] where
  most := by show 1 ≤ 8; omega
  some := by show 0 < 1; omega
  lens := by
    intro b hb
    obtain rfl := List.mem_singleton.1 hb
    show l.length ≤ 100000; omega
  goes := by
    intro b hb t ht
    obtain rfl := List.mem_singleton.1 hb
    cases ht
  uses := by
    intro b hb x hx
    obtain rfl := List.mem_singleton.1 hb
    have : x = v := List.mem_singleton.1 hx
    omega
  first := by
    intro _ x hx
    have hx' : x ∈ l := hx
    obtain ⟨h1, h2, h3⟩ := hs.mem x hx'
    refine ⟨by omega, ?_⟩
    have h := hg x hx'
    have hu := useT_len h
    obtain ⟨n, t⟩ := x
    cases t with
    | phi of => exact absurd h id
    | arg m => exact h
    | const m => exact h
    | apply k of =>
      refine ⟨h.1, ?_, hu, h.2.2⟩
      have h2 : of.length = opOf k := h.2.1
      have hk := h.1
      rw [h2]
      revert hk
      generalize k = j
      intro hk
      match j, hk with
      | 0, _ | 1, _ | 2, _ | 3, _ | 4, _ | 5, _ | 6, _ | 7, _ | 8, _ | 9, _ | 10, _ | 11, _ | 12, _ => decide
  others := by
    intro j hj k hk
    obtain rfl : j = 0 := by simp only [List.length_cons, List.length_nil] at hj; omega
    exact absurd hk (Nat.not_lt_zero _)
end Code
end Go.Proofs.YtdffpkmabehfbaaDoor

/-
  What functions of one block come to.
-/
namespace Go.Proofs.YtdffpkmabehfbaaDoor
open Go.RowKit
namespace Code

/-- From these values on, the values come to those. -/
def Yields (args : List Int) : List Int → List Val → List Int → Prop
  | vs, [], out => out = vs
  | vs, v :: l, out => ∃ n, comes args [] vs 0 v.thing = some n ∧ Yields args (vs ++ [n]) l out

theorem Yields.snoc {args : List Int} : ∀ {l : List Val} {vs out : List Int} {v : Val} {n : Int}, Yields args vs l out → comes args [] out 0 v.thing = some n → Yields args vs (l ++ [v]) (out ++ [n])
  | [], vs, out, v, n, h, hc => by
    obtain rfl : out = vs := h
    exact ⟨n, hc, rfl⟩
  | u :: l, vs, out, v, n, h, hc => by
    obtain ⟨m, h1, h2⟩ := h
    exact ⟨m, h1, Yields.snoc h2 hc⟩

theorem Yields.length {args : List Int} : ∀ {l : List Val} {vs out : List Int}, Yields args vs l out → out.length = vs.length + l.length
  | [], vs, out, h => by
    obtain rfl : out = vs := h
    rfl
  | u :: l, vs, out, h => by
    obtain ⟨m, h1, h2⟩ := h
    have := Yields.length h2
    rw [List.length_append, List.length_cons, List.length_nil] at this
    rw [List.length_cons]
    omega

theorem comes_same {args V0 V vs : List Int} {place : Nat} {t : Thing} (hp : t.isPhi = false) (hne : ∀ k of, t = .apply k of → 0 < of.length) (hu : ∀ x ∈ useT t, V.getD x 0 = vs.getD x 0) : comes args V0 V place t = comes args [] vs 0 t := by
  cases t with
  | phi of => cases hp
  | arg n => rfl
  | const n => rfl
  | apply k of =>
    have h0 := hne k of rfl
    have e1 : of.getD 0 0 ∈ of := by
      rw [List.getD_eq_getElem?_getD, List.getElem?_eq_getElem h0]; exact List.getElem_mem h0
    have e2 : of.getD (of.length - 1) 0 ∈ of := by
      rw [List.getD_eq_getElem?_getD, List.getElem?_eq_getElem (by omega)]; exact List.getElem_mem (by omega)
    show reckon k _ _ = reckon k _ _
    rw [hu _ e1, hu _ e2]

theorem good_ne {args : Nat} {t : Thing} (h : GoodT args t) : ∀ k of, t = .apply k of → 0 < of.length := by
  rintro k of rfl
  have h2 : of.length = opOf k := h.2.1
  have hk := h.1
  rw [h2]
  revert hk
  generalize k = j
  intro hk
  match j, hk with
  | 0, _ | 1, _ | 2, _ | 3, _ | 4, _ | 5, _ | 6, _ | 7, _ | 8, _ | 9, _ | 10, _ | 11, _ | 12, _ => decide

theorem snoc_getD_lt (vs : List Int) (n : Int) (x : Nat) (h : x < vs.length) : (vs ++ [n]).getD x 0 = vs.getD x 0 := by
  rw [List.getD_eq_getElem?_getD, List.getD_eq_getElem?_getD, List.getElem?_append_left h]

theorem snoc_getD_eq (vs : List Int) (n : Int) : (vs ++ [n]).getD vs.length 0 = n := by
  rw [List.getD_eq_getElem?_getD, List.getElem?_append_right (Nat.le_refl _), Nat.sub_self]; rfl

theorem runVals_yields {args V0 : List Int} {fu a : Nat} : ∀ (l : List Val) (vs out V : List Int) (st : Nat), Seq vs.length l → (∀ x ∈ l, GoodT a x.thing) → Yields args vs l out → V.length = 60 → (∀ x, x < vs.length → V.getD x 0 = vs.getD x 0) → vs.length + l.length ≤ 60 → st + l.length ≤ fu →
    ∃ V', runVals args V0 0 fu l V st = .ok V' (st + l.length) ∧ ∀ x, x < out.length → V'.getD x 0 = out.getD x 0
  | [], vs, out, V, st, _, _, hy, _, hV, _, _ => by
    obtain rfl : out = vs := hy
    exact ⟨V, rfl, hV⟩
  | v :: l, vs, out, V, st, hs, hg, hy, h60, hV, hl, hf => by
    obtain ⟨n, hc, hy⟩ := hy
    rw [List.length_cons] at hl hf
    have hgv := hg v List.mem_cons_self
    have hc' : comes args V0 V 0 v.thing = some n := by
      rw [comes_same (good_phi hgv) (good_ne hgv) (fun x hx => hV x (hs.2.1 x hx))]; exact hc
    have hlen : (vs ++ [n]).length = vs.length + 1 := by simp
    obtain ⟨V', h1, h2⟩ := runVals_yields (V0 := V0) (fu := fu) l (vs ++ [n]) out (V.set v.num n) (st + 1) (by rw [hlen]; exact hs.2.2) (fun x hx => hg x (List.mem_cons_of_mem _ hx)) hy (by simp [h60]) (fun x hx => by
      rw [hlen] at hx
      rw [hs.1]
      by_cases e : x = vs.length
      · subst e
        rw [snoc_getD_eq, List.getD_eq_getElem?_getD, List.getElem?_set_self (by omega)]; rfl
      · rw [snoc_getD_lt _ _ _ (by omega), List.getD_eq_getElem?_getD, List.getElem?_set_ne (by omega), ← List.getD_eq_getElem?_getD]
        exact hV x (by omega)) (by rw [hlen]; omega) (by omega)
    refine ⟨V', ?_, h2⟩
    rw [runVals_on (by omega) hc', h1, List.length_cons]
    congr 1
    omega

theorem one_ends {args : List Int} {l : List Val} {out : List Int} {v fu : Nat} (hs : Seq 0 l) (hg : ∀ x ∈ l, GoodT args.length x.thing) (hl : l.length ≤ 60) (hy : Yields args [] l out) (hv : v < l.length) (hfu : fu = l.length + 1) :
    Ends args [⟨l, .ret v⟩] fu 0 0 zeros 0 (out.getD v 0) fu 0 := by
  obtain ⟨V', h1, h2⟩ := runVals_yields (V0 := zeros) (fu := fu) l [] out zeros 0 hs hg hy (by rfl) (fun x hx => absurd hx (Nat.not_lt_zero _)) (by simpa using hl) (by omega)
  have hlen := hy.length
  rw [List.length_nil, Nat.zero_add] at hlen
  rw [← h2 v (by omega)]
  rw [Nat.zero_add] at h1
  subst hfu
  exact Ends.ret (b := ⟨l, .ret v⟩) rfl h1 (by omega) rfl

theorem one_fuel {args : List Int} {l : List Val} {out : List Int} {v fu : Nat} (hs : Seq 0 l) (hg : ∀ x ∈ l, GoodT args.length x.thing) (hl : l.length ≤ 60) (hy : Yields args [] l out) (hfu : fu = l.length) :
    Ends args [⟨l, .ret v⟩] fu 0 0 zeros 0 0 fu 5 := by
  obtain ⟨V', h1, h2⟩ := runVals_yields (V0 := zeros) (fu := fu) l [] out zeros 0 hs hg hy (by rfl) (fun x hx => absurd hx (Nat.not_lt_zero _)) (by simpa using hl) (by omega)
  rw [Nat.zero_add] at h1
  subst hfu
  exact Ends.fuelL (b := ⟨l, .ret v⟩) rfl h1 (Nat.le_refl _)
end Code
end Go.Proofs.YtdffpkmabehfbaaDoor

/-
  Walks: chiselkeep.pick of any many, ops; chiselkeep.reckon against the program's own.
-/
namespace Go.Proofs.YtdffpkmabehfbaaDoor
open Go.RowKit
open Go.Proofs.YtdffpkmabehfbaaDoor.Ref (dec ch digits)

/-- Which of m things a raw number speaks of. -/
def pickN (c : Int) (m : Nat) : Nat := if c < 0 then ((-(c + 1)) % m).toNat else (c % m).toNat

theorem pickN_lt (c : Int) (m : Nat) (h : 0 < m) : pickN c m < m := by
  unfold pickN
  have h1 := Int.emod_lt_of_pos (-(c + 1)) (show (0 : Int) < m by omega)
  have h2 := Int.emod_lt_of_pos c (show (0 : Int) < m by omega)
  have h3 := Int.emod_nonneg (-(c + 1)) (show (m : Int) ≠ 0 by omega)
  have h4 := Int.emod_nonneg c (show (m : Int) ≠ 0 by omega)
  split <;> omega

set_option maxHeartbeats 1000000 in
theorem pickn_any (c : Int) (m : Nat) (hm : 0 < m) (hm' : m ≤ 1000) (hn : -9223372036854775808 ≤ c) (hn' : c ≤ 9223372036854775807) (w : World) :
    Calls Tryd.prog 10 #[.int .i64 c, .int .i64 (m : Nat)] w fun e w' => e = .returned (.int .i64 (pickN c m : Nat)) ∧ w' = w := by
  have hm0 : (0 : Int) < (m : Int) := by omega
  have hm1 : (m : Int) ≠ 0 := by omega
  have hm2 : ((m : Int) == 0) = false := by simp; omega
  by_cases h0 : c < 0
  · have hp : ((pickN c m : Nat) : Int) = -(c + 1).tmod (m : Int) := by
      unfold pickN
      rw [if_pos h0, Int.toNat_of_nonneg (Int.emod_nonneg _ hm1), ← Int.neg_tmod, Int.tmod_eq_emod_of_nonneg (by omega)]
    rw [hp]
    go_enter Tryd.func10, Tryd.ntmps10
    go_wp2
    go_ret
    exact ⟨rfl, rfl⟩
  · have hp : ((pickN c m : Nat) : Int) = c % (m : Int) := by
      unfold pickN
      rw [if_neg h0, Int.toNat_of_nonneg (Int.emod_nonneg _ hm1)]
    rw [hp]
    go_enter Tryd.func10, Tryd.ntmps10
    go_wp2
    go_ret
    exact ⟨rfl, rfl⟩

/-- The operations but div. -/
def kop (o : Nat) : Nat := if o < 3 then o else o + 1

theorem kreckon_ok (o : Nat) (ho : o < 12) (a b : Int) (ha : -2147483648 ≤ a) (ha' : a < 2147483648) (hb : -2147483648 ≤ b) (hb' : b < 2147483648) :
    ∃ x, Code.reckon (kop o) a b = some x ∧ ∀ w, Calls Tryd.prog 13 #[.int .i64 (o : Nat), .int .i64 a, .int .i64 b] w fun e w' => e = .returned (.int .i64 x) ∧ w' = w := by
  match o, ho with
  | 0, _ => exact ⟨_, rfl, fun w => kr0 a b w ha ha' hb hb'⟩
  | 1, _ => exact ⟨_, rfl, fun w => kr1 a b w ha ha' hb hb'⟩
  | 2, _ => exact ⟨_, rfl, fun w => kr2 a b w ha ha' hb hb'⟩
  | 3, _ => exact ⟨_, rfl, fun w => kr3 a b w ha ha' hb hb'⟩
  | 4, _ => exact ⟨_, rfl, fun w => kr4 a b w ha ha' hb hb'⟩
  | 5, _ => exact ⟨_, rfl, fun w => kr5 a b w ha ha' hb hb'⟩
  | 6, _ => exact ⟨_, rfl, fun w => kr6 a b w ha ha' hb hb'⟩
  | 7, _ => exact ⟨_, rfl, fun w => kr7 a b w ha ha' hb hb'⟩
  | 8, _ =>
    refine ⟨_, rfl, fun w => ?_⟩
    have h : Code.truth (a == b) = if a = b then 1 else 0 := by
      by_cases e : a = b
      · rw [if_pos e, e]; simp [Code.truth]
      · rw [if_neg e]; simp [Code.truth, e]
    rw [h]
    exact kr8 a b w ha ha' hb hb'
  | 9, _ =>
    refine ⟨_, rfl, fun w => ?_⟩
    have h : Code.truth (decide (a < b)) = if a < b then 1 else 0 := by
      by_cases e : a < b
      · rw [if_pos e]; simp [Code.truth, e]
      · rw [if_neg e]; simp [Code.truth, e]
    rw [h]
    exact kr9 a b w ha ha' hb hb'
  | 10, _ => exact ⟨_, rfl, fun w => kr10 a b w ha ha' hb hb'⟩
  | 11, _ => exact ⟨_, rfl, fun w => kr11 a b w ha ha' hb hb'⟩

def opNames : Array Value := #[.string (bs [97, 100, 100]), .string (bs [115, 117, 98]), .string (bs [109, 117, 108]), .string (bs [97, 110, 100]), .string (bs [111, 114]), .string (bs [120, 111, 114]), .string (bs [115, 104, 108]), .string (bs [115, 104, 114]), .string (bs [101, 113]), .string (bs [108, 116]), .string (bs [110, 101, 103]), .string (bs [110, 111, 116])]

theorem opNames_at (o : Nat) (ho : o < 12) : opNames[o]? = some (.string (bs (Code.nameOf (kop o)))) := by
  match o, ho with
  | 0, _ | 1, _ | 2, _ | 3, _ | 4, _ | 5, _ | 6, _ | 7, _ | 8, _ | 9, _ | 10, _ | 11, _ => rfl

theorem ops_any (w : World) :
    Calls Tryd.prog 12 #[] w fun e w' => ∃ g, e = .returned (.slice (some ⟨g, 0, none⟩) 12 12) ∧ (∀ o, o < 12 → w'.cell? ⟨g, o, none⟩ = some (.string (bs (Code.nameOf (kop o))))) ∧ Below w.heap.size w w' ∧ g < w'.heap.size := by
  go_enter Tryd.func12, Tryd.ntmps12
  go_wp2
  go_ret
  refine ⟨w.heap.size, rfl, fun o ho => ?_, below_al (Below.refl _ _) _, by simp⟩
  exact blk_cell (heap_alloc_new w (.cells opNames 9)) o _ (opNames_at o ho)
end Go.Proofs.YtdffpkmabehfbaaDoor

/-
  A held region: what holds may be made stronger in its midst.
-/
namespace Go.Proofs.YtdffpkmabehfbaaDoor

theorem held_mono {P : Program} {md : Region.Mode} {ops : Array Oper} {Q : Exit → Act → World → Prop} {S S' : World → Prop} (hS : ∀ w, S' w → S w) :
    ∀ (fuel : Nat) (listed : Array Bool) (a : Act) (w : World), wpAnyH P md ops Q S' fuel listed a w → wpAnyH P md ops Q S fuel listed a w
  | 0, _, _, _, h => h
  | fuel + 1, _, _, _, h => ⟨h.1, fun i hi => wpOp_mono (fun a' w' h' => ⟨hS _ h'.1, held_mono hS fuel _ a' w' h'.2⟩) (h.2 i hi)⟩
end Go.Proofs.YtdffpkmabehfbaaDoor
