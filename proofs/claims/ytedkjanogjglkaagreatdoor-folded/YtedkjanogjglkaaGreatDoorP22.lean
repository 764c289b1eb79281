/-
  Parts of the proof: SdRule, RStepL, RStepW.
-/
import Derived.Test.YtedkjanogjglkaaGreatDoorP20
namespace Go.Proofs.YtedkjanogjglkaaGreatDoor
open Go.RowKit
open Go.Proofs.YtedkjanogjglkaaGreatDoor.Code (RTree Nm CRule)
theorem and_self32 (a : Int) (h : -2147483648 <= a) (h' : a < 2147483648) : bits .and .i32 a a = a := by
 have h2 : bits .and .i32 a a = IntKind.i32.wrap (((BitVec.ofInt 32 a).toNat &&& (BitVec.ofInt 32 a).toNat : Nat) : Int) := rfl
 rw [h2, Nat.and_self, BitVec.toNat_ofInt, IntKind.wrap_i32]
 omega
theorem or_self32 (a : Int) (h : -2147483648 <= a) (h' : a < 2147483648) : bits .or .i32 a a = a := by
 have h2 : bits .or .i32 a a = IntKind.i32.wrap (((BitVec.ofInt 32 a).toNat ||| (BitVec.ofInt 32 a).toNat : Nat) : Int) := rfl
 rw [h2, Nat.or_self, BitVec.toNat_ofInt, IntKind.wrap_i32]
 omega
theorem xor_self32 (a : Int) : bits .xor .i32 a a = 0 := by
 have h2 : bits .xor .i32 a a = IntKind.i32.wrap (((BitVec.ofInt 32 a).toNat ^^^ (BitVec.ofInt 32 a).toNat : Nat) : Int) := rfl
 rw [h2, Nat.xor_self]
 rfl
theorem and_zero32 (a : Int) : bits .and .i32 a 0 = 0 := by
 have h2 : bits .and .i32 a 0 = IntKind.i32.wrap (((BitVec.ofInt 32 a).toNat &&& 0 : Nat) : Int) := rfl
 rw [h2, Nat.and_zero]
 rfl
theorem or_zero32 (a : Int) (h : -2147483648 <= a) (h' : a < 2147483648) : bits .or .i32 a 0 = a := by
 have h2 : bits .or .i32 a 0 = IntKind.i32.wrap (((BitVec.ofInt 32 a).toNat ||| 0 : Nat) : Int) := rfl
 rw [h2, Nat.or_zero, BitVec.toNat_ofInt, IntKind.wrap_i32]
 omega
theorem xor_zero32 (a : Int) (h : -2147483648 <= a) (h' : a < 2147483648) : bits .xor .i32 a 0 = a := by
 have h2 : bits .xor .i32 a 0 = IntKind.i32.wrap (((BitVec.ofInt 32 a).toNat ^^^ 0 : Nat) : Int) := rfl
 rw [h2, Nat.xor_zero, BitVec.toNat_ofInt, IntKind.wrap_i32]
 omega
namespace Code
mutual
def semE (ρ : List UInt8 -> Int) : RTree -> Int
 | .num c => c
 | .name w => ρ w
 | .hash w => ρ w
 | .op k kids => (reckon k ((semEs ρ kids).headD 0) ((semEs ρ kids).getLastD 0)).getD 0
 | .fold k kids => (reckon k ((semEs ρ kids).headD 0) ((semEs ρ kids).getLastD 0)).getD 0
def semEs (ρ : List UInt8 -> Int) : List RTree -> List Int
 | [] => []
 | t :: l => semE ρ t :: semEs ρ l
end
mutual
def RTree.nod : RTree -> Prop
 | .op k kids => k ≠ 3 /\ kids.length = opOf k /\ nodAll kids
 | .fold _ _ => False
 | _ => True
def nodAll : List RTree -> Prop
 | [] => True
 | t :: l => t.nod /\ nodAll l
end
structure Env (th : Nat -> Option Thing) (σ : Nat -> Int) (S : Nat -> Prop) : Prop where
 app : ∀ n k of, th n = some (.apply k of) -> k ≠ 3 -> reckon k (σ (of.getD 0 0)) (σ (of.getD (of.length - 1) 0)) = some (σ n)
 con : ∀ n c, th n = some (.const c) -> σ n = c
 len : ∀ n k of, th n = some (.apply k of) -> k < 13 /\ of.length = opOf k
 dn : ∀ n k of, S n -> th n = some (.apply k of) -> ∀ x ∈ of, S x
theorem Env.const {th : Nat -> Option Thing} {σ : Nat -> Int} {S : Nat -> Prop} (h : Env th σ S) {n : Nat} {c : Int} (hc : constOf th n = some c) : σ n = c := by
 unfold constOf at hc
 split at hc
 ·rename_i d hd
  simp only [Option.some.injEq] at hc
  subst hc
  exact h.con n d hd
 ·cases hc
theorem lookK_snoc {kn : Known} {w w' : List UInt8} {n v : Nat} (h : lookK kn w = some v) : lookK (kn ++ [(w', n)]) w = some v := by
 unfold lookK at *
 rw [List.find?_append]
 cases hf : kn.find? fun p => p.1 == w with
 | none => rw [hf] at h; cases h
 | some p => rw [hf] at h; exact h
theorem lookK_new {kn : Known} {w : List UInt8} {n : Nat} (h : lookK kn w = none) : lookK (kn ++ [(w, n)]) w = some n := by
 unfold lookK at *
 rw [Option.map_eq_none_iff] at h
 rw [List.find?_append, h]
 simp
theorem opOf_pos {k : Nat} (h : k < 13) : 0 < opOf k /\ opOf k <= 2 := by
 match k, h with
 | 0, _ | 1, _ | 2, _ | 3, _ | 4, _ | 5, _ | 6, _ | 7, _ | 8, _ | 9, _ | 10, _ | 11, _ | 12, _ => decide
def KnLe (kn kn' : Known) : Prop := ∀ w v, lookK kn w = some v -> lookK kn' w = some v
def Bnd (th : Nat -> Option Thing) (kn : Known) (p : Nm) : Prop := ∃ v, lookK kn p.1 = some v /\ (p.2 = true -> (constOf th v).isSome = true)
def KnIn (S : Nat -> Prop) (kn : Known) : Prop := ∀ e ∈ kn, S e.2
theorem ends_at {of : List Nat} {σ : Nat -> Int} {l : List Int} (h : l = of.map σ) (hp : 0 < of.length) : l.headD 0 = σ (of.getD 0 0) /\ l.getLastD 0 = σ (of.getD (of.length - 1) 0) := by
 subst h
 constructor
 ·cases of with
  | nil => cases hp
  | cons a of => rfl
 ·rw [List.getLastD_eq_getLast?, List.getLast?_eq_getElem?, List.length_map, List.getElem?_map, List.getD_eq_getElem?_getD, List.getElem?_eq_getElem (by omega)]
  rfl
mutual
theorem fits_sem {th : Nat -> Option Thing} {σ : Nat -> Int} {S : Nat -> Prop} (he : Env th σ S) : ∀ (t : RTree) (n : Nat) (kn kn' : Known), t.nod -> S n -> KnIn S kn -> fits th t n kn = some kn' ->
  KnLe kn kn' /\ KnIn S kn' /\ (∀ p ∈ t.names, Bnd th kn' p) /\ ∀ ρ : List UInt8 -> Int, (∀ w v, lookK kn' w = some v -> ρ w = σ v) -> semE ρ t = σ n
 | .num c, n, kn, kn', _, hS, hk, h => by
  simp only [fits] at h
  split at h
  ·rename_i hc
   simp only [Option.some.injEq] at h
   subst h
   exact ⟨fun _ _ h => h, hk, fun p hp => by simp [RTree.names] at hp, fun ρ _ => (he.const hc).symm⟩
  ·cases h
 | .name w, n, kn, kn', _, hS, hk, h => by
  simp only [fits] at h
  split at h
  ·rename_i v hv
   split at h
   ·rename_i e
    simp only [Option.some.injEq] at h
    subst h e
    exact ⟨fun _ _ h => h, hk, fun p hp => by
     simp only [RTree.names, List.mem_cons, List.not_mem_nil, or_false] at hp
     subst hp
     exact ⟨v, hv, fun h => by cases h⟩, fun ρ hρ => hρ w v hv⟩
   ·cases h
  ·rename_i hv
   simp only [Option.some.injEq] at h
   subst h
   refine ⟨fun _ _ h => lookK_snoc h, fun e he => ?_, fun p hp => by
    simp only [RTree.names, List.mem_cons, List.not_mem_nil, or_false] at hp
    subst hp
    exact ⟨n, lookK_new hv, fun h => by cases h⟩, fun ρ hρ => hρ w n (lookK_new hv)⟩
   rcases List.mem_append.1 he with he | he
   ·exact hk e he
   ·simp only [List.mem_cons, List.not_mem_nil, or_false] at he
    subst he; exact hS
 | .hash w, n, kn, kn', _, hS, hk, h => by
  simp only [fits] at h
  split at h
  ·cases h
  ·rename_i c hc
   split at h
   ·rename_i v hv
    split at h
    ·rename_i e
     simp only [Option.some.injEq] at h
     subst h
     exact ⟨fun _ _ h => h, hk, fun p hp => by
      simp only [RTree.names, List.mem_cons, List.not_mem_nil, or_false] at hp
      subst hp
      exact ⟨v, hv, fun _ => by rw [e]; rfl⟩, fun ρ hρ => (hρ w v hv).trans ((he.const e).trans (he.const hc).symm)⟩
    ·cases h
   ·rename_i hv
    simp only [Option.some.injEq] at h
    subst h
    refine ⟨fun _ _ h => lookK_snoc h, fun e he => ?_, fun p hp => by
     simp only [RTree.names, List.mem_cons, List.not_mem_nil, or_false] at hp
     subst hp
     exact ⟨n, lookK_new hv, fun _ => by rw [hc]; rfl⟩, fun ρ hρ => hρ w n (lookK_new hv)⟩
    rcases List.mem_append.1 he with he | he
    ·exact hk e he
    ·simp only [List.mem_cons, List.not_mem_nil, or_false] at he
     subst he; exact hS
 | .op k kids, n, kn, kn', hd, hS, hk, h => by
  simp only [RTree.nod] at hd
  obtain ⟨hk3, hlen, hall⟩ := hd
  simp only [fits] at h
  split at h
  ·rename_i j of hj
   split at h
   ·rename_i e
    subst e
    obtain ⟨l1, l2⟩ := he.len n j of hj
    obtain ⟨h1, h2, h4, h3⟩ := fitsAll_sem he kids of kn kn' hall (by rw [hlen, l2]) (he.dn n j of hS hj) hk h
    refine ⟨h1, h2, h4, fun ρ hρ => ?_⟩
    obtain ⟨e1, e2⟩ := ends_at (h3 ρ hρ) (by rw [l2]; exact (opOf_pos l1).1)
    simp only [semE]
    rw [e1, e2, he.app n j of hj hk3]
    rfl
   ·cases h
  ·cases h
 | .fold _ _, _, _, _, hd, _, _, _ => by simp only [RTree.nod] at hd
theorem fitsAll_sem {th : Nat -> Option Thing} {σ : Nat -> Int} {S : Nat -> Prop} (he : Env th σ S) : ∀ (l : List RTree) (of : List Nat) (kn kn' : Known), nodAll l -> l.length = of.length -> (∀ x ∈ of, S x) -> KnIn S kn -> fitsAll th l of kn = some kn' ->
  KnLe kn kn' /\ KnIn S kn' /\ (∀ p ∈ namesAll l, Bnd th kn' p) /\ ∀ ρ : List UInt8 -> Int, (∀ w v, lookK kn' w = some v -> ρ w = σ v) -> semEs ρ l = of.map σ
 | [], [], kn, kn', _, _, _, hk, h => by
  simp only [fitsAll, Option.some.injEq] at h
  subst h
  exact ⟨fun _ _ h => h, hk, fun p hp => by simp [namesAll] at hp, fun _ _ => rfl⟩
 | [], _ :: _, _, _, _, hl, _, _, _ => by cases hl
 | _ :: _, [], _, _, _, hl, _, _, _ => by cases hl
 | t :: l, n :: of, kn, kn', hd, hl, hS, hk, h => by
  simp only [nodAll] at hd
  simp only [fitsAll, Option.bind_eq_some_iff] at h
  obtain ⟨k1, h1, h2⟩ := h
  obtain ⟨a1, a2, a4, a3⟩ := fits_sem he t n kn k1 hd.1 (hS n (List.mem_cons_self ..)) hk h1
  obtain ⟨b1, b2, b4, b3⟩ := fitsAll_sem he l of k1 kn' hd.2 (by simpa using hl) (fun x hx => hS x (List.mem_cons_of_mem _ hx)) a2 h2
  refine ⟨fun w v h => b1 w v (a1 w v h), b2, fun p hp => ?_, fun ρ hρ => ?_⟩
  ·simp only [namesAll, List.mem_append] at hp
   rcases hp with hp | hp
   ·obtain ⟨v, e1, e2⟩ := a4 p hp
    exact ⟨v, b1 _ _ e1, e2⟩
   ·exact b4 p hp
  rw [semEs, List.map_cons, a3 ρ (fun w v h => hρ w v (b1 w v h)), b3 ρ hρ]
end
theorem fits_top {th : Nat -> Option Thing} {σ : Nat -> Int} {S : Nat -> Prop} (he : Env th σ S) {k : Nat} {kids : List RTree} {n : Nat} {kn : Known} (hd : (RTree.op k kids).nod) (hS : ∀ j of, th n = some (.apply j of) -> ∀ x ∈ of, S x) (h : fits th (.op k kids) n [] = some kn) :
  KnIn S kn /\ (∀ p ∈ namesAll kids, Bnd th kn p) /\ ∀ ρ : List UInt8 -> Int, (∀ w v, lookK kn w = some v -> ρ w = σ v) -> semE ρ (.op k kids) = σ n := by
 have he' : Env th σ (fun x => S x \/ x = n) := ⟨he.app, he.con, he.len, fun m k of hm hth x hx => by
  rcases hm with hm | rfl
  ·exact Or.inl (he.dn m k of hm hth x hx)
  ·exact Or.inl (hS k of hth x hx)⟩
 obtain ⟨_, _, h3, h4⟩ := fits_sem he' (.op k kids) n [] kn hd (Or.inr rfl) (fun e h => by cases h) h
 refine ⟨?_, h3, h4⟩
 simp only [RTree.nod] at hd
 simp only [fits] at h
 split at h
 ·rename_i j of hj
  split at h
  ·rename_i e
   subst e
   exact (fitsAll_sem he kids of [] kn hd.2.2 (by rw [hd.2.1, (he.len n j of hj).2]) (hS j of hj) (fun e h => by cases h) h).2.1
  ·cases h
 ·cases h
def nX : RTree := .name [120]
def hA : RTree := .hash [97]
def hB : RTree := .hash [98]
def rF2 (k : Nat) : CRule := ⟨.op k [hA, hB], .fold k [hA, hB], [([97], true), ([98], true)]⟩
def rF1 (k : Nat) : CRule := ⟨.op k [hA], .fold k [hA], [([97], true)]⟩
def rX (k : Nat) (l : List RTree) (r : RTree) : CRule := ⟨.op k l, r, [([120], false)]⟩
def stdRules : List CRule := [rF2 0, rF2 1, rF2 2, rF2 4, rF2 5, rF2 6, rF2 7, rF2 8, rF2 9, rF2 10, rF1 11, rF1 12,
 rX 1 [nX, nX] (.num 0), rX 4 [nX, nX] nX, rX 5 [nX, nX] nX, rX 6 [nX, nX] (.num 0), rX 9 [nX, nX] (.num 1), rX 10 [nX, nX] (.num 0),
 rX 11 [.op 11 [nX]] nX, rX 12 [.op 12 [nX]] nX,
 rX 0 [nX, .num 0] nX, rX 0 [.num 0, nX] nX, rX 1 [nX, .num 0] nX, rX 1 [.num 0, nX] (.op 11 [nX]),
 rX 2 [nX, .num 0] (.num 0), rX 2 [.num 0, nX] (.num 0), rX 2 [nX, .num 1] nX, rX 2 [.num 1, nX] nX, rX 2 [nX, .num 8] (.op 7 [nX, .num 3]),
 rX 4 [nX, .num 0] (.num 0), rX 5 [nX, .num 0] nX, rX 6 [nX, .num 0] nX, rX 7 [nX, .num 0] nX, rX 8 [nX, .num 0] nX]
inductive Res (th : Nat -> Option Thing) (σ : Nat -> Int) (kn : Known) (c : Int) : RTree -> Prop
 | name {w : List UInt8} {v : Nat} : lookK kn w = some v -> σ v = c -> Res th σ kn c (.name w)
 | num {d : Int} : d = c -> Res th σ kn c (.num d)
 | fold {k : Nat} {l : List RTree} : numR th kn (.fold k l) = c -> Res th σ kn c (.fold k l)
 | op1 {k : Nat} {w : List UInt8} {v : Nat} : lookK kn w = some v -> k < 13 -> k ≠ 3 -> opOf k = 1 -> reckon k (σ v) (σ v) = some c -> Res th σ kn c (.op k [.name w])
 | op2 {k : Nat} {w : List UInt8} {v : Nat} {d : Int} : lookK kn w = some v -> k < 13 -> k ≠ 3 -> opOf k = 2 -> -2147483648 <= d /\ d < 2147483648 -> reckon k (σ v) d = some c -> Res th σ kn c (.op k [.name w, .num d])
def StdOk (th : Nat -> Option Thing) (σ : Nat -> Int) (S : Nat -> Prop) (n : Nat) (kn : Known) (R : CRule) : Prop := (∃ k l, R.node = .op k l /\ k ≠ 3) /\ KnIn S kn /\ Res th σ kn (σ n) R.result
theorem std_fold {th : Nat -> Option Thing} {σ : Nat -> Int} {S : Nat -> Prop} (he : Env th σ S) {n : Nat} {kn : Known} (hS : ∀ j of, th n = some (.apply j of) -> ∀ x ∈ of, S x) {k : Nat} {l : List RTree} {ns : List Nm} (hd : (RTree.op k l).nod) (hl : l = [hA, hB] \/ l = [hA]) (h : fits th (.op k l) n [] = some kn) : StdOk th σ S n kn ⟨.op k l, .fold k l, ns⟩ := by
 obtain ⟨h1, h2, h3⟩ := fits_top he hd hS h
 have h4 := h3 (fun w => σ (knownV kn w)) (fun w v hw => by show σ (knownV kn w) = σ v; unfold knownV; rw [hw]; rfl)
 refine ⟨⟨k, l, rfl, by simp only [RTree.nod] at hd; exact hd.1⟩, h1, .fold ?_⟩
 rw [<- h4]
 have hc : ∀ w, (w, true) ∈ namesAll l -> numR th kn (.hash w) = σ (knownV kn w) := by
  intro w hw
  obtain ⟨v, e1, e2⟩ := h2 _ hw
  obtain ⟨c, e3⟩ := Option.isSome_iff_exists.1 (e2 rfl)
  have e4 : knownV kn w = v := by unfold knownV; rw [e1]; rfl
  simp only [numR]
  rw [e4, e3, he.const e3]; rfl
 rcases hl with rfl | rfl
 ·have ea := hc [97] (by simp [namesAll, RTree.names, hA])
  have eb := hc [98] (by simp [namesAll, RTree.names, hA, hB])
  simp only [hA, hB, numR, numsR, semE, semEs] at ea eb ⊢
  rw [ea, eb]
 ·have ea := hc [97] (by simp [namesAll, RTree.names, hA])
  simp only [hA, numR, numsR, semE, semEs] at ea ⊢
  rw [ea]
theorem std_x {th : Nat -> Option Thing} {σ : Nat -> Int} {S : Nat -> Prop} (he : Env th σ S) {n : Nat} {kn : Known} (hS : ∀ j of, th n = some (.apply j of) -> ∀ x ∈ of, S x) {k : Nat} {l : List RTree} {r : RTree} (hd : (RTree.op k l).nod) (hx : ([120], false) ∈ namesAll l)
  (hr : ∀ (ρ : List UInt8 -> Int) v, lookK kn [120] = some v -> ρ [120] = σ v -> semE ρ (.op k l) = σ n -> Res th σ kn (σ n) r) (h : fits th (.op k l) n [] = some kn) : StdOk th σ S n kn (rX k l r) := by
 obtain ⟨h1, h2, h3⟩ := fits_top he hd hS h
 obtain ⟨v, e1, _⟩ := h2 _ hx
 have hρ : ∀ w v, lookK kn w = some v -> σ (knownV kn w) = σ v := fun w v hw => by unfold knownV; rw [hw]; rfl
 exact ⟨⟨k, l, rfl, by simp only [RTree.nod] at hd; exact hd.1⟩, h1, hr (fun w => σ (knownV kn w)) v e1 (hρ _ _ e1) (h3 _ hρ)⟩
theorem std_res {th : Nat -> Option Thing} {σ : Nat -> Int} {S : Nat -> Prop} (he : Env th σ S) (hin : ∀ n, -2147483648 <= σ n /\ σ n < 2147483648) {n : Nat} {kn : Known} (hS : ∀ j of, th n = some (.apply j of) -> ∀ x ∈ of, S x) {R : CRule} (hR : R ∈ stdRules) (h : fits th R.node n [] = some kn) : StdOk th σ S n kn R := by
 have hw : ∀ v, wrap32 (σ v) = σ v := fun v => w32_in _ (hin v).1 (hin v).2
 have w0 : wrap32 0 = 0 := by unfold wrap32; omega
 have nd : ∀ k a b, k ≠ 3 -> opOf k = 2 -> a.nod -> b.nod -> (RTree.op k [a, b]).nod := fun k a b h1 h2 h3 h4 => by simp only [RTree.nod, nodAll]; exact ⟨h1, h2.symm, h3, h4, trivial⟩
 have nx : nX.nod := by simp only [nX, RTree.nod]
 have nn : ∀ c, (RTree.num c).nod := fun c => by simp only [RTree.nod]
 have na : hA.nod /\ hB.nod := by simp only [hA, hB, RTree.nod, and_self]
 have n1 : ∀ k a, k ≠ 3 -> opOf k = 1 -> a.nod -> (RTree.op k [a]).nod := fun k a h1 h2 h3 => by simp only [RTree.nod, nodAll]; exact ⟨h1, h2.symm, h3, trivial⟩
 have m1 : ∀ a, ([120], false) ∈ namesAll [nX, a] := fun a => by simp [namesAll, nX, RTree.names]
 have m2 : ∀ a, ([120], false) ∈ namesAll [a, nX] := fun a => by simp [namesAll, nX, RTree.names]
 have m3 : ∀ k, ([120], false) ∈ namesAll [RTree.op k [nX]] := fun a => by simp [namesAll, nX, RTree.names]
 simp only [stdRules, List.mem_cons, List.not_mem_nil, or_false] at hR
 rcases hR with rfl | rfl | rfl | rfl | rfl | rfl | rfl | rfl | rfl | rfl | rfl | rfl | rfl | rfl | rfl | rfl | rfl | rfl | rfl | rfl | rfl | rfl | rfl | rfl | rfl | rfl | rfl | rfl | rfl | rfl | rfl | rfl | rfl | rfl
 iterate 10 exact std_fold he hS (nd _ _ _ (by decide) rfl na.1 na.2) (Or.inl rfl) h
 iterate 2 exact std_fold he hS (n1 _ _ (by decide) rfl na.1) (Or.inr rfl) h
 ·exact std_x he hS (nd _ _ _ (by decide) rfl nx nx) (m1 _) (fun ρ v e1 e2 e => .num (by
   have e : wrap32 (ρ [120] - ρ [120]) = σ n := e
   rw [<- e, Int.sub_self, w0])) h
 ·exact std_x he hS (nd _ _ _ (by decide) rfl nx nx) (m1 _) (fun ρ v e1 e2 e => .name e1 (by
   have e : bits .and .i32 (ρ [120]) (ρ [120]) = σ n := e
   rw [<- e, e2, and_self32 _ (hin v).1 (hin v).2])) h
 ·exact std_x he hS (nd _ _ _ (by decide) rfl nx nx) (m1 _) (fun ρ v e1 e2 e => .name e1 (by
   have e : bits .or .i32 (ρ [120]) (ρ [120]) = σ n := e
   rw [<- e, e2, or_self32 _ (hin v).1 (hin v).2])) h
 ·exact std_x he hS (nd _ _ _ (by decide) rfl nx nx) (m1 _) (fun ρ v e1 e2 e => .num (by
   have e : bits .xor .i32 (ρ [120]) (ρ [120]) = σ n := e
   rw [<- e, xor_self32])) h
 ·exact std_x he hS (nd _ _ _ (by decide) rfl nx nx) (m1 _) (fun ρ v e1 e2 e => .num (by
   have e : truth (ρ [120] == ρ [120]) = σ n := e
   rw [<- e, beq_self_eq_true]; rfl)) h
 ·exact std_x he hS (nd _ _ _ (by decide) rfl nx nx) (m1 _) (fun ρ v e1 e2 e => .num (by
   have e : truth (decide (ρ [120] < ρ [120])) = σ n := e
   rw [<- e, decide_eq_false (Int.lt_irrefl _)]; rfl)) h
 ·exact std_x he hS (n1 _ _ (by decide) rfl (n1 _ _ (by decide) rfl nx)) (m3 _) (fun ρ v e1 e2 e => .name e1 (by
   have e : wrap32 (-wrap32 (-ρ [120])) = σ n := e
   have := hin v
   rw [<- e, e2]; unfold wrap32; omega)) h
 ·exact std_x he hS (n1 _ _ (by decide) rfl (n1 _ _ (by decide) rfl nx)) (m3 _) (fun ρ v e1 e2 e => .name e1 (by
   have e : bits .xor .i32 (-1) (bits .xor .i32 (-1) (ρ [120])) = σ n := e
   have := hin v
   rw [<- e, e2, not_is (σ v) this.1 this.2, not_is _ (by omega) (by omega)]; omega)) h
 ·exact std_x he hS (nd _ _ _ (by decide) rfl nx (nn _)) (m1 _) (fun ρ v e1 e2 e => .name e1 (by
   have e : wrap32 (ρ [120] + 0) = σ n := e
   rw [<- e, e2, Int.add_zero, hw])) h
 ·exact std_x he hS (nd _ _ _ (by decide) rfl (nn _) nx) (m2 _) (fun ρ v e1 e2 e => .name e1 (by
   have e : wrap32 (0 + ρ [120]) = σ n := e
   rw [<- e, e2, Int.zero_add, hw])) h
 ·exact std_x he hS (nd _ _ _ (by decide) rfl nx (nn _)) (m1 _) (fun ρ v e1 e2 e => .name e1 (by
   have e : wrap32 (ρ [120] - 0) = σ n := e
   rw [<- e, e2, Int.sub_zero, hw])) h
 ·exact std_x he hS (nd _ _ _ (by decide) rfl (nn _) nx) (m2 _) (fun ρ v e1 e2 e => .op1 e1 (by decide) (by decide) rfl (by
   have e : wrap32 (0 - ρ [120]) = σ n := e
   rw [<- e, e2, Int.zero_sub]; rfl)) h
 ·exact std_x he hS (nd _ _ _ (by decide) rfl nx (nn _)) (m1 _) (fun ρ v e1 e2 e => .num (by
   have e : wrap32 (ρ [120] * 0) = σ n := e
   rw [<- e, Int.mul_zero, w0])) h
 ·exact std_x he hS (nd _ _ _ (by decide) rfl (nn _) nx) (m2 _) (fun ρ v e1 e2 e => .num (by
   have e : wrap32 (0 * ρ [120]) = σ n := e
   rw [<- e, Int.zero_mul, w0])) h
 ·exact std_x he hS (nd _ _ _ (by decide) rfl nx (nn _)) (m1 _) (fun ρ v e1 e2 e => .name e1 (by
   have e : wrap32 (ρ [120] * 1) = σ n := e
   rw [<- e, e2, Int.mul_one, hw])) h
 ·exact std_x he hS (nd _ _ _ (by decide) rfl (nn _) nx) (m2 _) (fun ρ v e1 e2 e => .name e1 (by
   have e : wrap32 (1 * ρ [120]) = σ n := e
   rw [<- e, e2, Int.one_mul, hw])) h
 ·exact std_x he hS (nd _ _ _ (by decide) rfl nx (nn _)) (m1 _) (fun ρ v e1 e2 e => .op2 e1 (by decide) (by decide) rfl (by decide) (by
   have e : wrap32 (ρ [120] * 8) = σ n := e
   rw [<- e, e2]; rfl)) h
 ·exact std_x he hS (nd _ _ _ (by decide) rfl nx (nn _)) (m1 _) (fun ρ v e1 e2 e => .num (by
   have e : bits .and .i32 (ρ [120]) 0 = σ n := e
   rw [<- e, and_zero32])) h
 ·exact std_x he hS (nd _ _ _ (by decide) rfl nx (nn _)) (m1 _) (fun ρ v e1 e2 e => .name e1 (by
   have e : bits .or .i32 (ρ [120]) 0 = σ n := e
   rw [<- e, e2, or_zero32 _ (hin v).1 (hin v).2])) h
 ·exact std_x he hS (nd _ _ _ (by decide) rfl nx (nn _)) (m1 _) (fun ρ v e1 e2 e => .name e1 (by
   have e : bits .xor .i32 (ρ [120]) 0 = σ n := e
   rw [<- e, e2, xor_zero32 _ (hin v).1 (hin v).2])) h
 ·exact std_x he hS (nd _ _ _ (by decide) rfl nx (nn _)) (m1 _) (fun ρ v e1 e2 e => .name e1 (by
   have e : wrap32 (ρ [120] * 1) = σ n := e
   rw [<- e, e2, Int.mul_one, hw])) h
 ·exact std_x he hS (nd _ _ _ (by decide) rfl nx (nn _)) (m1 _) (fun ρ v e1 e2 e => .name e1 (by
   have e : ρ [120] / 1 = σ n := e
   rw [<- e, e2, Int.ediv_one])) h
end Code
open Go.Proofs.YtedkjanogjglkaaGreatDoor.Code (RTree Nm RSt Prs CRule Pair)
namespace Code
theorem known_slot {R : CRule} (h : RuleOk R) {of : List Nat} (hl : of.length = R.names.length) {p : Nm} {k : Nat} (hs : slotOf R.names p = some k) : ∃ hk : k < of.length, knownV (knOf R.names of) p.1 = of[k] := by
 obtain ⟨hk, hp, _⟩ := List.findIdx?_eq_some_iff_getElem.1 hs
 have hk' : k < of.length := by omega
 refine ⟨hk', ?_⟩
 simp only [Bool.and_eq_true, beq_iff_eq] at hp
 have h1 := lookK_knOf h.dist (of := of) (List.getElem?_eq_getElem hk)
 rw [hp.1] at h1
 unfold knownV
 rw [h1, List.getElem?_eq_getElem hk']
 rfl
theorem opW_pos (k : Nat) (h : k < 13) : 1 <= opW k /\ opW k <= 20 := by
 match k, h with
 | 0, _ | 1, _ | 2, _ | 3, _ | 4, _ | 5, _ | 6, _ | 7, _ | 8, _ | 9, _ | 10, _ | 11, _ | 12, _ => decide
mutual
theorem newC_heavy : ∀ t : RTree, t.fine -> (newC t : Int) <= t.heavy
 | .name _, _ => by simp [newC, RTree.heavy]
 | .hash _, _ => by simp [newC, RTree.heavy]
 | .num _, _ => by simp [newC, RTree.heavy]
 | .fold _ _, _ => by simp [newC, RTree.heavy]
 | .op k kids, h => by
  have h1 := newCs_heavy kids h.2.2
  have h2 := opW_pos k h.1
  simp only [newC, RTree.heavy]
  omega
theorem newCs_heavy : ∀ l : List RTree, fineAll l -> (newCs l : Int) <= heavyAll l
 | [], _ => by simp [newCs, heavyAll]
 | t :: l, h => by
  have h1 := newC_heavy t h.1
  have h2 := newCs_heavy l h.2
  simp only [newCs, heavyAll]
  omega
end
theorem RuleOk.room {R : CRule} (h : RuleOk R) : Room ⟨[], 0⟩ (newC R.result) := by
 obtain ⟨k, l, _, hk, _, hh⟩ := h.node
 have h1 := newC_heavy R.result h.fineR
 have h2 := opW_pos k hk
 unfold Room
 simp only [List.length_nil]
 omega
end Code
mutual
theorem RepT.relab {w : World} {base : Nat} {res : Bool} {L L' : Int -> Nm -> Prop} : ∀ (t : RTree) (v : Value), (∀ p ∈ t.names, ∀ i, L i p -> L' i p) -> RepT w base res L v t -> RepT w base res L' v t
 | .name x, v, hL, h => by
  obtain ⟨i, h1, h2⟩ := h
  exact ⟨i, h1, hL _ (by simp [RTree.names]) i h2⟩
 | .hash x, v, hL, h => by
  obtain ⟨i, h1, h2⟩ := h
  exact ⟨i, h1, hL _ (by simp [RTree.names]) i h2⟩
 | .num c, v, _, h => h
 | .op k kids, v, hL, h => by
  obtain ⟨sv, vs, h1, h2, h3, h4, h5⟩ := h
  exact ⟨sv, vs, h1, h2, h3, h4, RepTs.relab kids vs (by simpa [RTree.names] using hL) h5⟩
 | .fold k kids, v, hL, h => by
  obtain ⟨sv, vs, h1, h2, h3, h4, h5⟩ := h
  exact ⟨sv, vs, h1, h2, h3, h4, RepTs.relab kids vs (by simpa [RTree.names] using hL) h5⟩
theorem RepTs.relab {w : World} {base : Nat} {res : Bool} {L L' : Int -> Nm -> Prop} : ∀ (l : List RTree) (vs : List Value), (∀ p ∈ Code.namesAll l, ∀ i, L i p -> L' i p) -> RepTs w base res L vs l -> RepTs w base res L' vs l
 | [], [], _, h => h
 | [], _ :: _, _, h => h.elim
 | _ :: _, [], _, h => h.elim
 | t :: l, v :: vs, hL, h => ⟨RepT.relab t v (fun p hp => hL p (by simp [Code.namesAll, hp])) h.1, RepTs.relab l vs (fun p hp => hL p (by simp [Code.namesAll, hp])) h.2⟩
end
theorem RuleIn.known {R : CRule} (h : RuleIn R) {of : List Nat} (hl : of.length = R.names.length) : ∀ p ∈ R.result.names, ∀ i, LR ⟨R.names, false⟩ i p -> LK of (Code.knOf R.names of) i p := by
 intro p hp i hi
 have hb := h.ok.bound p hp
 obtain ⟨k, hk⟩ := Option.isSome_iff_exists.1 hb
 unfold LR at hi
 simp only [hk] at hi
 obtain ⟨h1, h2⟩ := Code.known_slot h.ok hl hk
 exact ⟨k, hi, h1, h2⟩
theorem NiceB.fnIn {bks : List Code.Blk} (h : Code.NiceB bks) : FnIn bks := ⟨h.few, fun b hb => Nat.le_trans (h.short b hb) (by omega), fun b hb v hv => by
 have h1 := (h.vals b hb v hv).2
 cases ht : v.thing with
 | phi of => rw [ht] at h1; exact h1.1
 | arg k => trivial
 | const c => trivial
 | apply k of =>
  rw [ht] at h1
  have := Code.opOf_range k h1.1
  have := h1.2.1
  show of.length <= 100000
  omega⟩
theorem NiceB.fnOk {bks : List Code.Blk} (h : Code.NiceB bks) : FnOk bks := ⟨h.few, fun b hb => Nat.le_trans (h.short b hb) (by omega), fun b hb v hv => (h.vals b hb v hv).1⟩
theorem NiceB.swOk {bks : List Code.Blk} (h : Code.NiceB bks) : SwOk bks := ⟨h.few, fun b hb => Nat.le_trans (h.short b hb) (by omega), fun b hb v hv => (h.vals b hb v hv).1, fun b hb v hv => by
  have h1 := (h.vals b hb v hv).2
  cases ht : v.thing with
  | phi of => rw [ht] at h1; exact h1
  | arg k => simp [Code.allUses]
  | const c => simp [Code.allUses]
  | apply k of =>
   rw [ht] at h1
   have := Code.opOf_range k h1.1
   have := h1.2.1
   exact ⟨by show of.length <= 100000; omega, h1.2.2⟩, fun b hb x hx => by
  have h1 := h.lasts b hb
  cases hl : b.last with
  | ret v => rw [hl] at h1 hx; simp only [Code.useL, List.mem_cons, List.not_mem_nil, or_false] at hx; subst hx; exact h1
  | jump t => rw [hl] at hx; simp [Code.useL] at hx
  | ifs v a b => rw [hl] at h1 hx; simp only [Code.useL, List.mem_cons, List.not_mem_nil, or_false] at hx; subst hx; exact h1.1⟩
def StB (w' : World) (b args : Nat) (pp : Option Addr) (n c bl ix rk : Nat) (sv rv : Value) : Prop :=
 w'.heap[b]? = some (.cells #[.int .i64 (args : Nat), .slice pp n c] 78) /\ w'.heap[b + 1]? = some (.cells #[.int .i64 (bl : Nat), .int .i64 (ix : Nat), .int .i64 (rk : Nat), sv, rv] 151) /\ w'.heap[b + 1 + 1]? = some (.cells #[.int .i64 0, .slice none 0 0] 78)
theorem StB.below {w w' : World} {b args : Nat} {pp : Option Addr} {n c bl ix rk : Nat} {sv rv : Value} (h : StB w b args pp n c bl ix rk sv rv) (hb : Below w.heap.size w w') : StB w' b args pp n c bl ix rk sv rv :=
 ⟨(hb.block _ (lt_of_block h.1)).trans h.1, (hb.block _ (lt_of_block h.2.1)).trans h.2.1, (hb.block _ (lt_of_block h.2.2)).trans h.2.2⟩
theorem StB.new (w : World) (args : Nat) (pp : Option Addr) (n c bl ix rk : Nat) (sv rv : Value) : StB (((w.alloc (.cells #[.int .i64 (args : Nat), .slice pp n c] 78)).alloc (.cells #[.int .i64 (bl : Nat), .int .i64 (ix : Nat), .int .i64 (rk : Nat), sv, rv] 151)).alloc (.cells #[.int .i64 0, .slice none 0 0] 78)) w.heap.size args pp n c bl ix rk sv rv := by
 refine ⟨stay_alloc (stay_alloc (heap_alloc_new w _)), ?_, ?_⟩
 ·have h := heap_alloc_new (w.alloc (.cells #[.int .i64 (args : Nat), .slice pp n c] 78)) (.cells #[.int .i64 (bl : Nat), .int .i64 (ix : Nat), .int .i64 (rk : Nat), sv, rv] 151)
  rw [alloc_size] at h
  exact stay_alloc h
 ·have h := heap_alloc_new ((w.alloc (.cells #[.int .i64 (args : Nat), .slice pp n c] 78)).alloc (.cells #[.int .i64 (bl : Nat), .int .i64 (ix : Nat), .int .i64 (rk : Nat), sv, rv] 151)) (.cells #[.int .i64 0, .slice none 0 0] 78)
  rw [alloc_size, alloc_size] at h
  exact h
theorem StB.setB {w : World} {b args : Nat} {pp : Option Addr} {n c bl ix rk : Nat} {sv rv : Value} (h : StB w b args pp n c bl ix rk sv rv) {g o : Nat} {u : Value} (hg : b + 1 + 1 < g) : StB (w.setCell ⟨g, o, none⟩ u) b args pp n c bl ix rk sv rv :=
 ⟨stay_set h.1 (show b ≠ g by omega), stay_set h.2.1 (show b + 1 ≠ g by omega), stay_set h.2.2 (show b + 1 + 1 ≠ g by omega)⟩
theorem cell_stay {w : World} {b o g q : Nat} {v u : Value} (h : w.cell? ⟨b, o, none⟩ = some v) (hne : b ≠ g) : (w.setCell ⟨g, q, none⟩ u).cell? ⟨b, o, none⟩ = some v := by
 cases hh : w.heap[b]? with
 | none => simp [World.cell?, hh] at h
 | some ob =>
  have h2 := stay_set (a := ⟨g, q, none⟩) (v := u) hh hne
  simpa [World.cell?, hh, h2] using h
theorem StS.below {w w' : World} {b args : Nat} {pp : Option Addr} {n c bl ix rk : Nat} {sv rv : Value} {gv gf gm go sk : Nat} {O1 O2 O3 : Obj} {u : Value} (h : StB w b args pp n c bl ix rk sv rv /\ w.heap[gv]? = some O1 /\ w.heap[gf]? = some O2 /\ w.heap[gm]? = some O3 /\ w.cell? ⟨go, sk, none⟩ = some u) (hb : Below w.heap.size w w') :
  StB w' b args pp n c bl ix rk sv rv /\ w'.heap[gv]? = some O1 /\ w'.heap[gf]? = some O2 /\ w'.heap[gm]? = some O3 /\ w'.cell? ⟨go, sk, none⟩ = some u := by
 refine ⟨h.1.below hb, (hb.block _ (lt_of_block h.2.1)).trans h.2.1, (hb.block _ (lt_of_block h.2.2.1)).trans h.2.2.1, (hb.block _ (lt_of_block h.2.2.2.1)).trans h.2.2.2.1, ?_⟩
 have hx := h.2.2.2.2
 cases hh : w.heap[go]? with
 | none => simp [World.cell?, hh] at hx
 | some ob =>
  have h2 := hb.block go (lt_of_block hh)
  simpa [World.cell?, h2] using hx
theorem StS.set {w : World} {b args : Nat} {pp : Option Addr} {n c bl ix rk : Nat} {sv rv : Value} {gv gf gm go sk : Nat} {O1 O2 O3 : Obj} {u : Value} (h : StB w b args pp n c bl ix rk sv rv /\ w.heap[gv]? = some O1 /\ w.heap[gf]? = some O2 /\ w.heap[gm]? = some O3 /\ w.cell? ⟨go, sk, none⟩ = some u) {g q : Nat} {u' : Value} (h0 : b + 1 + 1 < g) (h1 : gv ≠ g) (h2 : gf ≠ g) (h3 : gm ≠ g) (h4 : go ≠ g) :
  StB (w.setCell ⟨g, q, none⟩ u') b args pp n c bl ix rk sv rv /\ (w.setCell ⟨g, q, none⟩ u').heap[gv]? = some O1 /\ (w.setCell ⟨g, q, none⟩ u').heap[gf]? = some O2 /\ (w.setCell ⟨g, q, none⟩ u').heap[gm]? = some O3 /\ (w.setCell ⟨g, q, none⟩ u').cell? ⟨go, sk, none⟩ = some u :=
 ⟨h.1.setB h0, stay_set h.2.1 h1, stay_set h.2.2.1 h2, stay_set h.2.2.2.1 h3, cell_stay h.2.2.2.2 h4⟩
def StM (w : World) (b args : Nat) (pp : Option Addr) (n c bl ix rk : Nat) (sv rv : Value) (gv : Nat) (O1 : Obj) (mb : Nat) (O2 : Obj) : Prop := StB w b args pp n c bl ix rk sv rv /\ w.heap[gv]? = some O1 /\ w.heap[mb]? = some O2
theorem StM.below {w w' : World} {b args : Nat} {pp : Option Addr} {n c bl ix rk : Nat} {sv rv : Value} {gv mb : Nat} {O1 O2 : Obj} (h : StM w b args pp n c bl ix rk sv rv gv O1 mb O2) (hb : Below w.heap.size w w') : StM w' b args pp n c bl ix rk sv rv gv O1 mb O2 :=
 ⟨h.1.below hb, (hb.block _ (lt_of_block h.2.1)).trans h.2.1, (hb.block _ (lt_of_block h.2.2)).trans h.2.2⟩
theorem StM.set {w : World} {b args : Nat} {pp : Option Addr} {n c bl ix rk : Nat} {sv rv : Value} {gv mb : Nat} {O1 O2 : Obj} (h : StM w b args pp n c bl ix rk sv rv gv O1 mb O2) {g q : Nat} {u : Value} (h0 : b + 1 + 1 < g) (h1 : gv ≠ g) (h2 : mb ≠ g) : StM (w.setCell ⟨g, q, none⟩ u) b args pp n c bl ix rk sv rv gv O1 mb O2 :=
 ⟨h.1.setB h0, stay_set h.2.1 h1, stay_set h.2.2 h2⟩
theorem StM.grown {w w' : World} {b args : Nat} {pp : Option Addr} {n c bl ix rk : Nat} {sv rv : Value} {gv mb : Nat} {O1 : Obj} {C : Array Value} {z : Nat × Nat} (h : StM w b args pp n c bl ix rk sv rv gv O1 mb (.cells C 229 z)) {k m : Nat} {v : Value} {xs : List Value} (ho : w.ownsRow mb 169 k v m xs) (hg : w.grownBy w' v.ownBlock) (hb : b + 1 + 1 < mb) (hgv : gv < mb) : StM w' b args pp n c bl ix rk sv rv gv O1 mb (.cells C 229 z) := by
 have low : ∀ j o, w.heap[j]? = some o -> j < mb -> w'.heap[j]? = some o := fun j o hj hl => (hg.block j (lt_of_block hj) (fun e => by have := (ho.lt j e.symm).1; omega)).trans hj
 exact ⟨⟨low _ _ h.1.1 (by omega), low _ _ h.1.2.1 (by omega), low _ _ h.1.2.2 (by omega)⟩, low _ _ h.2.1 hgv, stay_grown ho hg h.2.2 (by decide)⟩
def StepPost (args : Nat) (o : Option (List Code.Blk)) (w : World) (e : Ending) (w' : World) : Prop :=
 Below w.heap.size w w' /\ ((∃ n p' c', o = some n /\ e = .returned (.tuple #[.agg #[.int .i64 (args : Nat), .slice p' n.length c'], .bool true]) /\ RepBlks w' 0 (.slice p' n.length c') n) \/ (∃ p' m' c', o = none /\ e = .returned (.tuple #[.agg #[.int .i64 (args : Nat), .slice p' m' c'], .bool false])))
theorem rNm_name (v : Value) (w : World) : (Instr.typeAssert (.iface 225 v) 121 225 true).run Tryz.prog w = .ok (.tuple #[v, .bool true]) w := by kernel_rfl
theorem rNm_hash (v : Value) (w : World) : (Instr.typeAssert (.iface 316 v) 121 225 true).run Tryz.prog w = .ok (.tuple #[.agg #[.int .i64 0], .bool false]) w := by kernel_rfl
theorem rNm_num (v : Value) (w : World) : (Instr.typeAssert (.iface 313 v) 121 225 true).run Tryz.prog w = .ok (.tuple #[.agg #[.int .i64 0], .bool false]) w := by kernel_rfl
theorem rNm_make (v : Value) (w : World) : (Instr.typeAssert (.iface 271 v) 121 225 true).run Tryz.prog w = .ok (.tuple #[.agg #[.int .i64 0], .bool false]) w := by kernel_rfl
theorem rNm_fold (v : Value) (w : World) : (Instr.typeAssert (.iface 266 v) 121 225 true).run Tryz.prog w = .ok (.tuple #[.agg #[.int .i64 0], .bool false]) w := by kernel_rfl
theorem nilVals (w : World) : RepVals w 0 (.slice none 0 0) [] := ⟨[], World.ownsRow_nil _ _ _ _, fun i h => by simp at h⟩
end Go.Proofs.YtedkjanogjglkaaGreatDoor
