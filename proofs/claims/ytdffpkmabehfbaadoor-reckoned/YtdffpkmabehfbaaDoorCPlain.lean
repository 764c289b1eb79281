/-
  Plain mathematics of the program's own readers (packages scan and code): lists of bytes and numbers; nothing of the program is imported here.
-/
namespace Go.Proofs.YtdffpkmabehfbaaDoor.Code

def isIn (lo hi : UInt8) (c : UInt8) : Bool := decide (lo.toNat ≤ c.toNat) && decide (c.toNat ≤ hi.toNat)

/-- What is behind a word, if the text begins with it. -/
def cut (word s : List UInt8) : Option (List UInt8) := if word.isPrefixOf s then some (s.drop word.length) else none

theorem cut_app (word r : List UInt8) : cut word (word ++ r) = some r := by
  have : word.isPrefixOf (word ++ r) = true := List.isPrefixOf_iff_prefix.2 (List.prefix_append _ _)
  simp [cut, this]

theorem cut_some {word s r : List UInt8} (h : cut word s = some r) : s = word ++ r := by
  unfold cut at h
  split at h
  · rename_i hp
    obtain ⟨t, rfl⟩ := List.isPrefixOf_iff_prefix.1 hp
    simp at h
    rw [h]
  · cases h

theorem cut_none {word s : List UInt8} (h : cut word s = none) : s.take word.length ≠ word := by
  intro hc
  have : word.isPrefixOf s = true := List.isPrefixOf_iff_prefix.2 (List.prefix_iff_eq_take.2 hc.symm)
  simp [cut, this] at h

theorem cut_none_of {word s : List UInt8} (h : s.take word.length ≠ word) : cut word s = none := by
  unfold cut
  split
  · rename_i hp
    exact absurd (List.prefix_iff_eq_take.1 (List.isPrefixOf_iff_prefix.1 hp)).symm h
  · rfl

def numFold (n : Nat) (l : List UInt8) : Nat := l.foldl (fun n c => 10 * n + (c.toNat - 48)) n

theorem numFold_snoc (n : Nat) (l : List UInt8) (c : UInt8) : numFold n (l ++ [c]) = 10 * numFold n l + (c.toNat - 48) := by
  simp [numFold, List.foldl_append]

/-- The signs at the head that lie between two, and what is behind them. -/
def run (lo hi : UInt8) (s : List UInt8) : List UInt8 := s.takeWhile (isIn lo hi)
def rest (lo hi : UInt8) (s : List UInt8) : List UInt8 := s.dropWhile (isIn lo hi)

theorem run_rest (lo hi : UInt8) (s : List UInt8) : run lo hi s ++ rest lo hi s = s := List.takeWhile_append_dropWhile

def badDigits (d : List UInt8) : Prop := d = [] ∨ 10 < d.length ∨ (d.head? = some 48 ∧ d ≠ [48])

instance (d : List UInt8) : Decidable (badDigits d) := by unfold badDigits; infer_instance

def number (s : List UInt8) : Option (Nat × List UInt8) :=
  if badDigits (run 48 57 s) then none else some (numFold 0 (run 48 57 s), rest 48 57 s)

def below (limit : Int) (s : List UInt8) : Option (Nat × List UInt8) :=
  (number s).bind fun p => if (p.1 : Int) < limit then some p else none

def value (s : List UInt8) : Option (Nat × List UInt8) := (cut [118] s).bind (below 60)

def target (s : List UInt8) : Option (Nat × List UInt8) := (cut [98] s).bind fun s => (number s).map fun p => (min p.1 8, p.2)

def signedOf (minus : Bool) (p : Nat × List UInt8) : Option (Int × List UInt8) :=
  if minus = true ∧ p.1 = 0 then none
  else
    let n : Int := if minus then -(p.1 : Int) else p.1
    if n < -2147483648 ∨ 2147483647 < n then none else some (n, p.2)

def signed (s : List UInt8) : Option (Int × List UInt8) :=
  match cut [45] s with
  | some r => (number r).bind (signedOf true)
  | none => (number s).bind (signedOf false)

/-- The v numbers of a phi, each behind a blank. -/
inductive PhiOf : List UInt8 → Option (List Nat × List UInt8) → Prop
  | done {s : List UInt8} : cut [32] s = none → PhiOf s (some ([], s))
  | bad {s r : List UInt8} : cut [32] s = some r → value r = none → PhiOf s none
  | more {s r t : List UInt8} {v : Nat} {o : Option (List Nat × List UInt8)} : cut [32] s = some r → value r = some (v, t) → PhiOf t o → PhiOf s (o.map fun p => (v :: p.1, p.2))

/-- The v numbers of an operation: so many. -/
def ofN : Nat → List UInt8 → Option (List Nat × List UInt8)
  | 0, s => some ([], s)
  | n + 1, s => (cut [32] s).bind fun r => (value r).bind fun p => (ofN n p.2).map fun q => (p.1 :: q.1, q.2)

/-- The operations: their names, how many values they are of, their weights. -/
def ops : List (List UInt8 × Int × Int) :=
  [([97, 100, 100], 2, 4), ([115, 117, 98], 2, 4), ([109, 117, 108], 2, 12), ([100, 105, 118], 2, 20), ([97, 110, 100], 2, 4), ([111, 114], 2, 4), ([120, 111, 114], 2, 4),
   ([115, 104, 108], 2, 5), ([115, 104, 114], 2, 5), ([101, 113], 2, 4), ([108, 116], 2, 4), ([110, 101, 103], 1, 3), ([110, 111, 116], 1, 3)]

def opNamed (l : List UInt8) : Option Nat := (ops.map (·.1)).findIdx? (· = l)

def opOf (k : Nat) : Nat := ((ops.getD k ([], 0, 0)).2.1).toNat

inductive Thing where
  | phi (of : List Nat)
  | arg (n : Nat)
  | const (n : Int)
  | apply (op : Nat) (of : List Nat)

inductive Last where
  | ret (v : Nat)
  | jump (to : Nat)
  | ifs (v t e : Nat)

structure Val where
  num : Nat
  thing : Thing

structure Blk where
  values : List Val
  last : Last

structure Fn where
  args : Nat
  blocks : List Blk

def sPhi : List UInt8 := [112, 104, 105]
def sArg : List UInt8 := [97, 114, 103]
def sConst : List UInt8 := [99, 111, 110, 115, 116]
def sRet : List UInt8 := [114, 101, 116]
def sJump : List UInt8 := [106, 117, 109, 112]
def sIf : List UInt8 := [105, 102]

def word (s : List UInt8) : List UInt8 := run 97 122 s
def behind (s : List UInt8) : List UInt8 := rest 97 122 s

def apply (w s : List UInt8) : Option (Thing × List UInt8) :=
  (opNamed w).bind fun k => (ofN (opOf k) s).map fun p => (.apply k p.1, p.2)

inductive ThingOf (args : Nat) : List UInt8 → Option (Thing × List UInt8) → Prop
  | phi {s : List UInt8} {o : Option (List Nat × List UInt8)} : word s = sPhi → PhiOf (behind s) o → ThingOf args s (o.map fun p => (.phi p.1, p.2))
  | arg {s : List UInt8} : word s = sArg → ThingOf args s ((cut [32] (behind s)).bind fun r => (below args r).map fun p => (.arg p.1, p.2))
  | const {s : List UInt8} : word s = sConst → ThingOf args s ((cut [32] (behind s)).bind fun r => (signed r).map fun p => (.const p.1, p.2))
  | apply {s : List UInt8} : word s ≠ sPhi → word s ≠ sArg → word s ≠ sConst → ThingOf args s (apply (word s) (behind s))

def ifLast (s : List UInt8) : Option (Last × List UInt8) :=
  (cut [32] s).bind fun r => (value r).bind fun p => (cut [32] p.2).bind fun r => (target r).bind fun q => (cut [32] q.2).bind fun r => (target r).map fun z => (.ifs p.1 q.1 z.1, z.2)

def last (s : List UInt8) : Option (Last × List UInt8) :=
  if word s = sRet then (cut [32] (behind s)).bind fun r => (value r).map fun p => (.ret p.1, p.2)
  else if word s = sJump then (cut [32] (behind s)).bind fun r => (target r).map fun p => (.jump p.1, p.2)
  else if word s = sIf then ifLast (behind s)
  else none

def Thing.isPhi : Thing → Bool
  | .phi _ => true
  | _ => false

/-- A block's values; 'phis': a phi may still come. -/
inductive ValuesOf (args : Nat) : Bool → List UInt8 → Option (List Val × List UInt8) → Prop
  | done {b : Bool} {s : List UInt8} : cut [118] s = none → ValuesOf args b s (some ([], s))
  | badV {b : Bool} {s r : List UInt8} : cut [118] s = some r → value s = none → ValuesOf args b s none
  | badEq {b : Bool} {s r t : List UInt8} {v : Nat} : cut [118] s = some r → value s = some (v, t) → cut [32, 61, 32] t = none → ValuesOf args b s none
  | badThing {b : Bool} {s r t u : List UInt8} {v : Nat} : cut [118] s = some r → value s = some (v, t) → cut [32, 61, 32] t = some u → ThingOf args u none → ValuesOf args b s none
  | badPhi {s r t u x : List UInt8} {v : Nat} {y : Thing} : cut [118] s = some r → value s = some (v, t) → cut [32, 61, 32] t = some u → ThingOf args u (some (y, x)) → y.isPhi = true → ValuesOf args false s none
  | badEnd {b : Bool} {s r t u x : List UInt8} {v : Nat} {y : Thing} : cut [118] s = some r → value s = some (v, t) → cut [32, 61, 32] t = some u → ThingOf args u (some (y, x)) → (y.isPhi = true → b = true) → cut [10] x = none → ValuesOf args b s none
  | more {b : Bool} {s r t u x z : List UInt8} {v : Nat} {y : Thing} {o : Option (List Val × List UInt8)} : cut [118] s = some r → value s = some (v, t) → cut [32, 61, 32] t = some u → ThingOf args u (some (y, x)) → (y.isPhi = true → b = true) →
      cut [10] x = some z → ValuesOf args y.isPhi z o → ValuesOf args b s (o.map fun p => (⟨v, y⟩ :: p.1, p.2))

end Go.Proofs.YtdffpkmabehfbaaDoor.Code
