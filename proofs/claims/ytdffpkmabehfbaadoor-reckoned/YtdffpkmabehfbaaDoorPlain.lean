/-
  Plain mathematics of the document's answer (package chiselref): lists of bytes and numbers; nothing of the program is imported here.
-/
namespace Go.Proofs.YtdffpkmabehfbaaDoor.Ref

def isDig (c : UInt8) : Bool := decide (48 ≤ c.toNat ∧ c.toNat ≤ 57)

def numFold (n : Nat) (l : List UInt8) : Nat := l.foldl (fun n c => 10 * n + (c.toNat - 48)) n

def numIn (l : List UInt8) : Int := if l.all isDig then (numFold 0 l : Nat) else -1

def number (l : List UInt8) : Int :=
  if l.length < 1 ∨ 10 < l.length ∨ (l.head? = some 48 ∧ 1 < l.length) then -1 else numIn l

theorem numIn_yes (l : List UInt8) (h : l.all isDig = true) : numIn l = (numFold 0 l : Nat) := by simp [numIn, h]

theorem numIn_no (l : List UInt8) (c : UInt8) (hc : c ∈ l) (h : isDig c = false) : numIn l = -1 := by
  have : ¬ (l.all isDig = true) := by
    intro ha
    have := List.all_eq_true.1 ha c hc
    simp [h] at this
  simp [numIn, this]

def after (l : List UInt8) (c : UInt8) : Int :=
  if l.length < 2 ∨ l.head? ≠ some c then -1 else number l.tail

def vnum (l : List UInt8) : Int := if 60 ≤ after l 118 then -1 else after l 118

theorem number_no {l : List UInt8} (h : l.length < 1 ∨ 10 < l.length ∨ (l.head? = some 48 ∧ 1 < l.length)) : number l = -1 := by
  simp only [number, if_pos h]

theorem number_in {l : List UInt8} (h : ¬ (l.length < 1 ∨ 10 < l.length ∨ (l.head? = some 48 ∧ 1 < l.length))) : number l = numIn l := by
  simp only [number, if_neg h]

theorem after_no {l : List UInt8} {c : UInt8} (h : l.length < 2 ∨ l.head? ≠ some c) : after l c = -1 := by
  simp only [after, if_pos h]

theorem after_yes {l : List UInt8} {c : UInt8} (h : ¬ (l.length < 2 ∨ l.head? ≠ some c)) : after l c = number l.tail := by
  simp only [after, if_neg h]

def twos : List (List UInt8) := [[97, 100, 100], [115, 117, 98], [109, 117, 108], [100, 105, 118], [97, 110, 100], [111, 114], [120, 111, 114], [115, 104, 108], [115, 104, 114], [101, 113], [108, 116]]

def ones : List (List UInt8) := [[110, 101, 103], [110, 111, 116]]

def arity (l : List UInt8) : Int := if l ∈ twos then 2 else if l ∈ ones then 1 else 0

theorem arity_no {l : List UInt8} (h : l ∉ twos) (h' : l ∉ ones) : arity l = 0 := by simp only [arity, if_neg h, if_neg h']

theorem arity_range (l : List UInt8) : 0 ≤ arity l ∧ arity l ≤ 2 := by
  unfold arity
  split
  · omega
  · split <;> omega

def weights : List (List UInt8 × Int) := [([97, 100, 100], 4), ([115, 117, 98], 4), ([97, 110, 100], 4), ([111, 114], 4), ([120, 111, 114], 4), ([101, 113], 4), ([108, 116], 4), ([109, 117, 108], 12), ([100, 105, 118], 20), ([115, 104, 108], 5), ([115, 104, 114], 5), ([110, 101, 103], 3), ([110, 111, 116], 3), ([99, 111, 110, 115, 116], 1)]

def weight (l : List UInt8) : Int := (weights.lookup l).getD 0

theorem weight_no {l : List UInt8} (h : l ∉ weights.map (·.1)) : weight l = 0 := by
  have : weights.lookup l = none := by
    rw [List.lookup_eq_none_iff]
    intro p hp
    have hne : ¬ l = p.1 := fun e => h (List.mem_map.2 ⟨p, hp, e.symm⟩)
    simpa using hne
  simp [weight, this]

theorem numFold_snoc (n : Nat) (l : List UInt8) (c : UInt8) : numFold n (l ++ [c]) = 10 * numFold n l + (c.toNat - 48) := by
  simp [numFold, List.foldl_append]

theorem numFold_lt (l : List UInt8) (h : l.all isDig = true) : numFold 0 l < 10 ^ l.length := by
  have key : ∀ (l : List UInt8) (n : Nat), l.all isDig = true → numFold n l < (n + 1) * 10 ^ l.length := by
    intro l
    induction l with
    | nil => intro n _; simp [numFold]
    | cons c t ih =>
      intro n hc
      simp only [List.all_cons, Bool.and_eq_true] at hc
      have h1 := ih (10 * n + (c.toNat - 48)) hc.2
      have h2 : c.toNat ≤ 57 := by have := hc.1; simp [isDig] at this; omega
      have h3 : numFold n (c :: t) = numFold (10 * n + (c.toNat - 48)) t := rfl
      rw [h3]
      refine Nat.lt_of_lt_of_le h1 ?_
      rw [List.length_cons, Nat.pow_succ, Nat.mul_comm (10 ^ t.length) 10, ← Nat.mul_assoc]
      exact Nat.mul_le_mul_right _ (by omega)
  simpa using key l 0 h

theorem numIn_range (l : List UInt8) (hl : l.length ≤ 10) : -1 ≤ numIn l ∧ numIn l < 10000000000 := by
  unfold numIn
  split
  · rename_i h
    have hb := numFold_lt l h
    have h4 : 10 ^ l.length ≤ 10 ^ 10 := Nat.pow_le_pow_right (by omega) hl
    have h5 : (10 : Nat) ^ 10 = 10000000000 := by decide
    omega
  · omega

theorem number_range (l : List UInt8) : -1 ≤ number l ∧ number l < 10000000000 := by
  by_cases h : l.length < 1 ∨ 10 < l.length ∨ (l.head? = some 48 ∧ 1 < l.length)
  · rw [number_no h]; omega
  · rw [number_in h]; exact numIn_range l (by omega)

theorem after_range (l : List UInt8) (c : UInt8) : -1 ≤ after l c ∧ after l c < 10000000000 := by
  by_cases h : l.length < 2 ∨ l.head? ≠ some c
  · rw [after_no h]; omega
  · rw [after_yes h]; exact number_range _

theorem vnum_hi {l : List UInt8} (h : 60 ≤ after l 118) : vnum l = -1 := by simp only [vnum, if_pos h]

theorem vnum_lo {l : List UInt8} (h : ¬ 60 ≤ after l 118) : vnum l = after l 118 := by simp only [vnum, if_neg h]

theorem vnum_range (l : List UInt8) : -1 ≤ vnum l ∧ vnum l < 60 := by
  have := after_range l 118
  by_cases h : 60 ≤ after l 118
  · rw [vnum_hi h]; omega
  · rw [vnum_lo h]; omega

def inRange (n : Int) : Bool := decide (-2147483648 ≤ n) && decide (n < 2147483648)

def signedOf (minus : Bool) (n : Int) : Int × Bool :=
  if n < 0 ∨ (minus = true ∧ n = 0) then (0, false) else if minus then (-n, inRange (-n)) else (n, inRange n)

def signed (l : List UInt8) : Int × Bool :=
  if l.head? = some 45 then signedOf true (number l.tail) else signedOf false (number l)

theorem signedOf_bad {b : Bool} {n : Int} (h : n < 0 ∨ (b = true ∧ n = 0)) : signedOf b n = (0, false) := by simp only [signedOf, if_pos h]

theorem signedOf_neg {n : Int} (h : 0 < n) : signedOf true n = (-n, inRange (-n)) := by
  have : ¬ (n < 0 ∨ (true = true ∧ n = 0)) := by simp; omega
  unfold signedOf
  rw [if_neg this, if_pos rfl]

theorem signedOf_pos {n : Int} (h : 0 ≤ n) : signedOf false n = (n, inRange n) := by
  have : ¬ (n < 0 ∨ (false = true ∧ n = 0)) := by simp; omega
  unfold signedOf
  rw [if_neg this, if_neg (by simp)]

/-- A digit's byte. -/
def ch (d : Nat) : UInt8 := UInt8.ofNat (48 + d)

def digs : Nat → Nat → List UInt8
  | 0, n => [ch (n % 10)]
  | f + 1, n => if n < 10 then [ch n] else digs f (n / 10) ++ [ch (n % 10)]

/-- A number as it is written. -/
def dec (n : Nat) : List UInt8 := digs n n

theorem digs_enough : ∀ (f g n : Nat), n ≤ f → n ≤ g → digs f n = digs g n := by
  intro f
  induction f with
  | zero =>
    intro g n hf hg
    have : n = 0 := by omega
    subst this
    cases g with
    | zero => rfl
    | succ g => rfl
  | succ f ih =>
    intro g n hf hg
    cases g with
    | zero =>
      have : n = 0 := by omega
      subst this; rfl
    | succ g =>
      unfold digs
      by_cases h : n < 10
      · rw [if_pos h, if_pos h]
      · rw [if_neg h, if_neg h, ih g (n / 10) (by omega) (by omega)]

theorem dec_small {n : Nat} (h : n < 10) : dec n = [ch (n % 10)] := by
  unfold dec
  cases n with
  | zero => rfl
  | succ n => rw [digs, if_pos h, Nat.mod_eq_of_lt h]

theorem dec_big {n : Nat} (h : 10 ≤ n) : dec n = dec (n / 10) ++ [ch (n % 10)] := by
  unfold dec
  cases n with
  | zero => omega
  | succ m =>
    rw [digs, if_neg (by omega)]
    rw [digs_enough m ((m + 1) / 10) ((m + 1) / 10) (by omega) (Nat.le_refl _)]

theorem digs_length : ∀ (f n : Nat), (digs f n).length ≤ f + 1 := by
  intro f
  induction f with
  | zero => intro n; simp [digs]
  | succ f ih =>
    intro n
    unfold digs
    split
    · simp
    · have := ih (n / 10)
      simp; omega

theorem dec_length (n : Nat) (h : n ≤ 4611686018427387904) : (dec n).length ≤ 4611686018427387905 := by
  have := digs_length n n
  unfold dec; omega

def digits (n : Int) : List UInt8 := if n < 0 then 45 :: dec (-n).toNat else dec n.toNat

/-- The lines of a text, of which 'cur' has been read of the first. -/
def linesGo : List UInt8 → List UInt8 → List (List UInt8) × Bool
  | [], cur => ([], cur.isEmpty)
  | c :: t, cur => if c = 10 then (cur :: (linesGo t []).1, (linesGo t []).2) else linesGo t (cur ++ [c])

def lines (l : List UInt8) : List (List UInt8) × Bool := linesGo l []

/-- 'll' and then 'p': what has been gathered, and what is to come. -/
def pre (ll : List (List UInt8)) (p : List (List UInt8) × Bool) : List (List UInt8) × Bool := (ll ++ p.1, p.2)

theorem linesGo_end (ll : List (List UInt8)) (c : UInt8) (t cur : List UInt8) (h : c = 10) : pre ll (linesGo (c :: t) cur) = pre (ll ++ [cur]) (linesGo t []) := by
  simp [linesGo, h, pre]

theorem linesGo_on (c : UInt8) (t cur : List UInt8) (h : ¬ c = 10) : linesGo (c :: t) cur = linesGo t (cur ++ [c]) := by
  simp [linesGo, h]

/-- The words of a line, of which 'cur' has been read of the first. -/
def wordsGo : List UInt8 → List UInt8 → List (List UInt8)
  | [], cur => [cur]
  | c :: t, cur => if c = 32 then cur :: wordsGo t [] else wordsGo t (cur ++ [c])

def words (l : List UInt8) : List (List UInt8) := wordsGo l []

theorem wordsGo_end (ll : List (List UInt8)) (c : UInt8) (t cur : List UInt8) (h : c = 32) : ll ++ wordsGo (c :: t) cur = (ll ++ [cur]) ++ wordsGo t [] := by
  simp [wordsGo, h]

theorem wordsGo_on (c : UInt8) (t cur : List UInt8) (h : ¬ c = 32) : wordsGo (c :: t) cur = wordsGo t (cur ++ [c]) := by
  simp [wordsGo, h]

/-- A value of a function: its v number; its operation; a number; what it is of. -/
structure RVal where
  V : Int
  Op : List UInt8
  N : Int
  Args : List Int

def zeroVal : RVal := ⟨0, [], 0, []⟩

def sConst : List UInt8 := [99, 111, 110, 115, 116]
def sArg : List UInt8 := [97, 114, 103]
def sPhi : List UInt8 := [112, 104, 105]

/-- The v numbers of words, as long as 'ok' they are numbers. -/
def vAll (ok : Bool) (ws : List (List UInt8)) : Bool := ok && (ws.map vnum).all fun a => decide (0 ≤ a)

def phiOk (a0 : List UInt8) (phis : Bool) : Bool := decide (0 ≤ vnum a0) && phis

def opOk (a0 op : List UInt8) (len : Nat) : Bool := decide (0 ≤ vnum a0) && decide (0 < arity op) && decide ((len : Int) = 3 + arity op)

theorem phiOk_yes {a0 : List UInt8} {phis : Bool} (h : 0 ≤ vnum a0) : phiOk a0 phis = phis := by simp [phiOk, h]

theorem phiOk_no {a0 : List UInt8} {phis : Bool} (h : ¬ 0 ≤ vnum a0) : phiOk a0 phis = false := by
  unfold phiOk; rw [decide_eq_false h]; rfl

theorem opOk_yes {a0 op : List UInt8} {len : Nat} (h : 0 ≤ vnum a0) (h' : 0 < arity op) (h'' : (len : Int) = 3 + arity op) : opOk a0 op len = true := by
  unfold opOk; rw [decide_eq_true h, decide_eq_true h', decide_eq_true h'']; rfl

theorem opOk_no {a0 op : List UInt8} {len : Nat} (h : ¬ 0 ≤ vnum a0 ∨ ¬ 0 < arity op ∨ ¬ (len : Int) = 3 + arity op) : opOk a0 op len = false := by
  unfold opOk
  rcases h with h | h | h
  · rw [decide_eq_false h]; rfl
  · rw [decide_eq_false h]; simp
  · rw [decide_eq_false h]; simp

def valueOf (fargs : Int) (phis : Bool) (ws : List (List UInt8)) : RVal × Bool :=
  if ws.length < 3 ∨ ws.getD 1 [] ≠ [61] then (zeroVal, false)
  else
    let V := vnum (ws.getD 0 [])
    let op := ws.getD 2 []
    let ok := decide (0 ≤ V)
    if op = sConst then
      if ws.length = 4 then (⟨V, op, (signed (ws.getD 3 [])).1, []⟩, ok && (signed (ws.getD 3 [])).2) else (⟨V, op, 0, []⟩, false)
    else if op = sArg then
      if ws.length = 4 then (⟨V, op, number (ws.getD 3 []), []⟩, ok && decide (0 ≤ number (ws.getD 3 [])) && decide (number (ws.getD 3 []) < fargs)) else (⟨V, op, 0, []⟩, false)
    else if op = sPhi then (⟨V, op, 0, (ws.drop 3).map vnum⟩, vAll (phiOk (ws.getD 0 []) phis) (ws.drop 3))
    else (⟨V, op, 0, (ws.drop 3).map vnum⟩, vAll (opOk (ws.getD 0 []) op ws.length) (ws.drop 3))

def value (fargs : Int) (phis : Bool) (l : List UInt8) : RVal × Bool := valueOf fargs phis (words l)

/-- The last line of a block: its word; a v number; where it goes to. -/
structure RLast where
  Last : List UInt8
  V : Int
  To : List Int

def sRet : List UInt8 := [114, 101, 116]
def sJump : List UInt8 := [106, 117, 109, 112]
def sIf : List UInt8 := [105, 102]

def toOk (V : Int) (to : List Int) : Bool := decide (0 ≤ V) && to.all fun a => decide (0 ≤ a)

def lastOf (ws : List (List UInt8)) : RLast × Bool :=
  if ws.getD 0 [] = sRet ∧ ws.length = 2 then (⟨sRet, vnum (ws.getD 1 []), []⟩, toOk (vnum (ws.getD 1 [])) [])
  else if ws.getD 0 [] = sJump ∧ ws.length = 2 then (⟨sJump, 0, [after (ws.getD 1 []) 98]⟩, toOk 0 [after (ws.getD 1 []) 98])
  else if ws.getD 0 [] = sIf ∧ ws.length = 4 then (⟨sIf, vnum (ws.getD 1 []), [after (ws.getD 2 []) 98, after (ws.getD 3 []) 98]⟩, toOk (vnum (ws.getD 1 [])) [after (ws.getD 2 []) 98, after (ws.getD 3 []) 98])
  else (⟨ws.getD 0 [], 0, []⟩, false)

def last (l : List UInt8) : RLast × Bool := lastOf (words l)

end Go.Proofs.YtdffpkmabehfbaaDoor.Ref
