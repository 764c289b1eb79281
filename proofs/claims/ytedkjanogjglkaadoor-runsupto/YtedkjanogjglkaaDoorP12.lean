/-
  The document's parse of lines and words, and what it has to do with functions as they are written; no walk.
  A held region: what holds may be made stronger in its midst.
  Walk: code.reader.thing, where an argument's number is none or too great; so for every text.
  Walk: code.reader.values, of a text that is wrong.
-/
import Derived.Test.YtedkjanogjglkaaDoorP10
import Derived.Test.YtedkjanogjglkaaDoorP11
import Derived.Test.YtedkjanogjglkaaDoorP01
import Derived.Deep.RegionHeld3
import Derived.Test.YtedkjanogjglkaaDoorP03

namespace Go.Proofs.YtedkjanogjglkaaDoor.D
open Go.Proofs.YtedkjanogjglkaaDoor (Code.Val Code.Blk Code.Fn)

namespace Ref
open Go.Proofs.YtedkjanogjglkaaDoor.Ref
open Go.Proofs.YtedkjanogjglkaaDoor.Code (textG lineG lastG linesG blockG blocksG textF WFT WFL WFB WFF PhisFirst nameOf ofText)

def headOf (n : Nat) : List UInt8 := 98 :: (dec n ++ [58])

def mkBlk (vs : List RVal) (z : RLast) : RBlk := ⟨vs, z.Last, z.V, z.To⟩

def isPhiB (x : RVal) : Bool := decide (x.Op = sPhi)

/-- Lines behind the first: within a block (what it may have still, what it has), or ahead of one. -/
def go (fargs : Int) : Option (Bool × List RVal) → Nat → List (List UInt8) → Option (List RBlk)
  | none, _, [] => some []
  | none, n, l :: t => if l = headOf n ∧ n ≠ 8 then go fargs (some (true, [])) n t else none
  | some _, _, [] => none
  | some (phis, acc), n, l :: t =>
    if (value fargs phis l).2 = true then go fargs (some (isPhiB (value fargs phis l).1, acc ++ [(value fargs phis l).1])) n t
    else if (last l).2 = true then (go fargs none (n + 1) t).map (mkBlk acc (last l).1 :: ·) else none

theorem go_head (fargs : Int) (n : Nat) (l : List UInt8) (t : List (List UInt8)) : go fargs none n (l :: t) = if l = headOf n ∧ n ≠ 8 then go fargs (some (true, [])) n t else none := by rw [go]

theorem go_line (fargs : Int) (phis : Bool) (acc : List RVal) (n : Nat) (l : List UInt8) (t : List (List UInt8)) : go fargs (some (phis, acc)) n (l :: t) =
    if (value fargs phis l).2 = true then go fargs (some (isPhiB (value fargs phis l).1, acc ++ [(value fargs phis l).1])) n t
    else if (last l).2 = true then (go fargs none (n + 1) t).map (mkBlk acc (last l).1 :: ·) else none := by rw [go]

def sFn : List UInt8 := [102, 117, 110, 99]

/-- Of the lines. -/
def parseL (ls : List (List UInt8)) : Option RFunc :=
  match ls with
  | [] => none
  | l :: t => if (words l).length ≠ 2 ∨ (words l).getD 0 [] ≠ sFn then none
    else if number ((words l).getD 1 []) < 0 ∨ 4 < number ((words l).getD 1 []) then none
    else match go (number ((words l).getD 1 [])) none 0 t with
      | none => none
      | some [] => none
      | some (b :: r) => some ⟨number ((words l).getD 1 []), b :: r⟩

def parse (s : List UInt8) : Option RFunc := if (lines s).2 = false ∨ 1500 < s.length then none else parseL (lines s).1

/-! Lines and words, put together and taken apart. -/

theorem linesGo_app : ∀ (l cur t : List UInt8), (10 : UInt8) ∉ l → linesGo (l ++ 10 :: t) cur = ((cur ++ l) :: (lines t).1, (lines t).2)
  | [], cur, t, _ => by simp [linesGo, lines]
  | c :: l, cur, t, h => by
    have hc : ¬ c = 10 := fun e => h (by rw [e]; exact List.mem_cons_self)
    have := linesGo_app l (cur ++ [c]) t (fun e => h (List.mem_cons_of_mem _ e))
    show linesGo (c :: (l ++ 10 :: t)) cur = _
    rw [linesGo_on c _ _ hc, this]; simp

theorem lines_app (l t : List UInt8) (h : (10 : UInt8) ∉ l) : lines (l ++ 10 :: t) = (l :: (lines t).1, (lines t).2) := by
  unfold lines; rw [linesGo_app l [] t h]; simp [lines]

def joinL (ls : List (List UInt8)) : List UInt8 := ls.flatMap (· ++ [10])

theorem linesGo_join : ∀ (t cur : List UInt8), (linesGo t cur).2 = true → cur ++ t = joinL (linesGo t cur).1
  | [], cur, h => by
    have : cur = [] := by simpa [linesGo] using h
    subst this; rfl
  | c :: t, cur, h => by
    by_cases hc : c = 10
    · subst hc
      have e : linesGo (10 :: t) cur = (cur :: (linesGo t []).1, (linesGo t []).2) := by simp [linesGo]
      rw [e] at h ⊢
      have := linesGo_join t [] h
      show cur ++ 10 :: t = (cur ++ [10]) ++ joinL (linesGo t []).1
      rw [← this]; simp
    · rw [linesGo_on c t cur hc] at h ⊢
      have := linesGo_join t (cur ++ [c]) h
      rw [← this]; simp

theorem lines_join {s : List UInt8} (h : (lines s).2 = true) : s = joinL (lines s).1 := by
  have := linesGo_join s [] h
  exact this

def joinW : List (List UInt8) → List UInt8
  | [] => []
  | w :: r => match r with
    | [] => w
    | _ :: _ => w ++ 32 :: joinW r

theorem joinW_one (w : List UInt8) : joinW [w] = w := rfl
theorem joinW_more (w x : List UInt8) (r : List (List UInt8)) : joinW (w :: x :: r) = w ++ 32 :: joinW (x :: r) := rfl

theorem wordsGo_ne (t cur : List UInt8) : wordsGo t cur ≠ [] := by
  induction t generalizing cur with
  | nil => simp [wordsGo]
  | cons c t ih =>
    unfold wordsGo
    split
    · simp
    · exact ih _

theorem wordsGo_join : ∀ (t cur : List UInt8), cur ++ t = joinW (wordsGo t cur)
  | [], cur => by simp [wordsGo, joinW]
  | c :: t, cur => by
    by_cases hc : c = 32
    · subst hc
      have e : wordsGo (32 :: t) cur = cur :: wordsGo t [] := by simp [wordsGo]
      rw [e]
      have ih := wordsGo_join t []
      cases hw : wordsGo t [] with
      | nil => exact absurd hw (wordsGo_ne _ _)
      | cons x r => rw [joinW_more, ← hw, ← ih]; simp
    · rw [wordsGo_on c t cur hc]
      have := wordsGo_join t (cur ++ [c])
      rw [← this]; simp

theorem words_join (l : List UInt8) : l = joinW (words l) := by
  have := wordsGo_join l []
  simpa [words] using this

theorem wordsGo_app : ∀ (w cur t : List UInt8), (32 : UInt8) ∉ w → wordsGo (w ++ 32 :: t) cur = (cur ++ w) :: words t
  | [], cur, t, _ => by simp [wordsGo, words]
  | c :: l, cur, t, h => by
    have hc : ¬ c = 32 := fun e => h (by rw [e]; exact List.mem_cons_self)
    have := wordsGo_app l (cur ++ [c]) t (fun e => h (List.mem_cons_of_mem _ e))
    show wordsGo (c :: (l ++ 32 :: t)) cur = _
    rw [wordsGo_on c _ _ hc, this]; simp

theorem words_app (w t : List UInt8) (h : (32 : UInt8) ∉ w) : words (w ++ 32 :: t) = w :: words t := by
  unfold words; rw [wordsGo_app w [] t h]; simp [words]

theorem wordsGo_last : ∀ (w cur : List UInt8), (32 : UInt8) ∉ w → wordsGo w cur = [cur ++ w]
  | [], cur, _ => by simp [wordsGo]
  | c :: l, cur, h => by
    have hc : ¬ c = 32 := fun e => h (by rw [e]; exact List.mem_cons_self)
    rw [wordsGo_on c _ _ hc, wordsGo_last l (cur ++ [c]) (fun e => h (List.mem_cons_of_mem _ e))]; simp

theorem words_one (w : List UInt8) (h : (32 : UInt8) ∉ w) : words w = [w] := by
  unfold words; rw [wordsGo_last w [] h]; simp

/-! Numbers. -/

theorem isDig_isIn (c : UInt8) : isDig c = Code.isIn 48 57 c := by
  unfold isDig Code.isIn
  by_cases h1 : (48 : UInt8).toNat ≤ c.toNat <;> by_cases h2 : c.toNat ≤ (57 : UInt8).toNat <;> simp_all <;> omega

theorem dec_dig (n : Nat) : (dec n).all isDig = true := by
  rw [List.all_eq_true]
  intro c hc
  rw [isDig_isIn]; exact Code.dec_in n c hc

theorem dec_no (n : Nat) (c : UInt8) (h : Code.isIn 48 57 c = false) : c ∉ dec n := fun hc => by
  have := Code.dec_in n c hc
  rw [h] at this; cases this

theorem dec_32 (n : Nat) : (32 : UInt8) ∉ dec n := dec_no n 32 rfl
theorem dec_10 (n : Nat) : (10 : UInt8) ∉ dec n := dec_no n 10 rfl

theorem number_of {n : Nat} (h : n < 10 ^ 10) : number (dec n) = n := by
  have hg := Code.dec_good n h
  have h1 : ¬ (dec n).length < 1 := fun h => hg (Or.inl (by
    cases hd : dec n with
    | nil => rfl
    | cons a t => rw [hd] at h; simp at h))
  have h2 : ¬ 10 < (dec n).length := fun h => hg (Or.inr (Or.inl h))
  have h3 : ¬ ((dec n).head? = some 48 ∧ 1 < (dec n).length) := fun h => hg (Or.inr (Or.inr ⟨h.1, fun e => by rw [e] at h; simp at h⟩))
  rw [Ref.number_in (fun h => h.elim h1 fun h => h.elim h2 h3), numIn_yes _ (dec_dig n)]
  show ((Code.numFold 0 (dec n) : Nat) : Int) = n
  rw [Code.dec_fold]

theorem number_inv {l : List UInt8} (h : 0 ≤ number l) : ∃ n : Nat, l = dec n ∧ n < 10 ^ 10 ∧ number l = n := by
  by_cases hb : l.length < 1 ∨ 10 < l.length ∨ (l.head? = some 48 ∧ 1 < l.length)
  · rw [Ref.number_no hb] at h; omega
  · rw [Ref.number_in hb] at h ⊢
    unfold numIn at h ⊢
    by_cases hd : l.all isDig = true
    · rw [if_pos hd]
      have hin : ∀ c ∈ l, Code.isIn 48 57 c = true := fun c hc => by rw [← isDig_isIn]; exact List.all_eq_true.1 hd c hc
      have h1 : l ≠ [] := fun e => hb (Or.inl (by rw [e]; simp))
      have h3 : l.head? = some 48 → l = [48] := fun e => by
        have hl : ¬ 1 < l.length := fun h => hb (Or.inr (Or.inr ⟨e, h⟩))
        cases l with
        | nil => cases e
        | cons a t =>
          cases t with
          | nil => simp at e; rw [e]
          | cons => simp at hl
      refine ⟨Code.numFold 0 l, (Code.dec_of _ l rfl h1 hin h3).symm, ?_, rfl⟩
      have := Code.fold_lt l hin
      have : 10 ^ l.length ≤ 10 ^ 10 := Nat.pow_le_pow_right (by omega) (by omega)
      omega
    · rw [if_neg hd] at h; omega

theorem after_of {n : Nat} {c : UInt8} (h : n < 10 ^ 10) : after (c :: dec n) c = n := by
  have : ¬ ((c :: dec n).length < 2 ∨ (c :: dec n).head? ≠ some c) := by
    rintro (h | h)
    · have := Code.dec_pos n
      cases hd : dec n with
      | nil => exact this hd
      | cons a t => rw [hd] at h; simp only [List.length_cons] at h; omega
    · exact h rfl
  rw [after_yes this]
  exact number_of h

theorem after_inv {l : List UInt8} {c : UInt8} (h : 0 ≤ after l c) : ∃ n : Nat, l = c :: dec n ∧ n < 10 ^ 10 ∧ after l c = n := by
  by_cases hb : l.length < 2 ∨ l.head? ≠ some c
  · rw [after_no hb] at h; omega
  · rw [after_yes hb] at h ⊢
    obtain ⟨n, h1, h2, h3⟩ := number_inv h
    refine ⟨n, ?_, h2, h3⟩
    cases l with
    | nil => exact absurd (Or.inl (by simp)) hb
    | cons a t =>
      have : a = c := by
        have := fun e => hb (Or.inr e)
        simpa using this
      subst this
      rw [← h1]; rfl

theorem vnum_of {n : Nat} (h : n < 60) : vnum (118 :: dec n) = n := by
  have := after_of (c := 118) (n := n) (by omega)
  rw [vnum_lo (by omega), this]

theorem vnum_inv {l : List UInt8} (h : 0 ≤ vnum l) : ∃ n : Nat, l = 118 :: dec n ∧ n < 60 ∧ vnum l = n := by
  by_cases hh : 60 ≤ after l 118
  · rw [vnum_hi hh] at h; omega
  · rw [vnum_lo hh] at h ⊢
    obtain ⟨n, h1, _, h3⟩ := after_inv h
    exact ⟨n, h1, by omega, h3⟩

theorem signed_of {c : Int} (h : -2147483648 ≤ c) (h' : c < 2147483648) : signed (digits c) = (c, true) := by
  unfold digits signed
  by_cases hc : c < 0
  · rw [if_pos hc, if_pos (show (45 :: dec (-c).toNat).head? = some 45 from rfl)]
    show signedOf true (number (dec (-c).toNat)) = _
    rw [number_of (by omega), signedOf_neg (by omega)]
    have e : -(((-c).toNat : Nat) : Int) = c := by omega
    rw [e]; unfold inRange; simp [h, h']
  · rw [if_neg hc]
    have hh : ¬ (dec c.toNat).head? = some 45 := by
      intro e
      cases hd : dec c.toNat with
      | nil => exact Code.dec_pos _ hd
      | cons a t =>
        rw [hd] at e
        simp only [List.head?_cons, Option.some.injEq] at e
        have := Code.dec_in c.toNat a (by rw [hd]; exact List.mem_cons_self)
        rw [e] at this; revert this; decide
    rw [if_neg hh, number_of (by omega), signedOf_pos (by omega)]
    have e : ((c.toNat : Nat) : Int) = c := by omega
    rw [e]; unfold inRange; simp [h, h']

theorem signed_inv {l : List UInt8} (h : (signed l).2 = true) : ∃ c : Int, l = digits c ∧ -2147483648 ≤ c ∧ c < 2147483648 ∧ (signed l).1 = c := by
  unfold signed at h ⊢
  by_cases hm : l.head? = some 45
  · rw [if_pos hm] at h ⊢
    by_cases hb : number l.tail < 0 ∨ (true = true ∧ number l.tail = 0)
    · rw [signedOf_bad hb] at h; cases h
    · have hp : 0 < number l.tail := by
        rcases Int.lt_trichotomy (number l.tail) 0 with h | h | h
        · exact absurd (Or.inl h) hb
        · exact absurd (Or.inr ⟨rfl, h⟩) hb
        · exact h
      rw [signedOf_neg hp] at h ⊢
      simp only [inRange, Bool.and_eq_true, decide_eq_true_eq] at h
      obtain ⟨n, h1, _, h3⟩ := number_inv (by omega : 0 ≤ number l.tail)
      refine ⟨-number l.tail, ?_, h.1, h.2, rfl⟩
      unfold digits
      rw [if_pos (by omega)]
      have e : (- -number l.tail).toNat = n := by omega
      rw [e, ← h1]
      cases l with
      | nil => cases hm
      | cons a t => simp at hm; rw [hm]; rfl
  · rw [if_neg hm] at h ⊢
    by_cases hb : number l < 0 ∨ (false = true ∧ number l = 0)
    · rw [signedOf_bad hb] at h; cases h
    · have hp : 0 ≤ number l := by
        rcases Int.lt_or_le (number l) 0 with h | h
        · exact absurd (Or.inl h) hb
        · exact h
      rw [signedOf_pos hp] at h ⊢
      simp only [inRange, Bool.and_eq_true, decide_eq_true_eq] at h
      obtain ⟨n, h1, _, h3⟩ := number_inv hp
      refine ⟨number l, ?_, h.1, h.2, rfl⟩
      unfold digits
      rw [if_neg (by omega)]
      have e : (number l).toNat = n := by omega
      rw [e]; exact h1

theorem digits_no (c : Int) (x : UInt8) (h : Code.isIn 48 57 x = false) (h' : x ≠ 45) : x ∉ digits c := by
  unfold digits
  split
  · intro hx
    rcases List.mem_cons.1 hx with e | hx
    · exact h' e
    · exact dec_no _ x h hx
  · exact dec_no _ x h

theorem arity_name (k : Nat) (hk : k < 13) : arity (nameOf k) = Code.opOf k ∧ 1 ≤ Code.opOf k ∧ nameOf k ≠ sConst ∧ nameOf k ≠ sArg ∧ nameOf k ≠ sPhi ∧ (32 : UInt8) ∉ nameOf k ∧ (10 : UInt8) ∉ nameOf k := by
  match k, hk with
  | 0, _ | 1, _ | 2, _ | 3, _ | 4, _ | 5, _ | 6, _ | 7, _ | 8, _ | 9, _ | 10, _ | 11, _ | 12, _ => decide

theorem arity_inv {op : List UInt8} (h : 0 < arity op) : ∃ k, k < 13 ∧ op = nameOf k := by
  unfold arity at h
  by_cases h2 : op ∈ twos
  · simp only [twos, List.mem_cons, List.not_mem_nil, or_false] at h2
    rcases h2 with rfl | rfl | rfl | rfl | rfl | rfl | rfl | rfl | rfl | rfl | rfl
    · exact ⟨0, by decide, rfl⟩
    · exact ⟨1, by decide, rfl⟩
    · exact ⟨2, by decide, rfl⟩
    · exact ⟨3, by decide, rfl⟩
    · exact ⟨4, by decide, rfl⟩
    · exact ⟨5, by decide, rfl⟩
    · exact ⟨6, by decide, rfl⟩
    · exact ⟨7, by decide, rfl⟩
    · exact ⟨8, by decide, rfl⟩
    · exact ⟨9, by decide, rfl⟩
    · exact ⟨10, by decide, rfl⟩
  · rw [if_neg h2] at h
    by_cases h1 : op ∈ ones
    · simp only [ones, List.mem_cons, List.not_mem_nil, or_false] at h1
      rcases h1 with rfl | rfl
      · exact ⟨11, by decide, rfl⟩
      · exact ⟨12, by decide, rfl⟩
    · rw [if_neg h1] at h; omega

/-! Values and lasts. -/

def toV (v : Code.Val) : RVal := match v.thing with
  | .phi of => ⟨v.num, sPhi, 0, of.map fun (x : Nat) => (x : Int)⟩
  | .arg n => ⟨v.num, sArg, n, []⟩
  | .const c => ⟨v.num, sConst, c, []⟩
  | .apply k of => ⟨v.num, nameOf k, 0, of.map fun (x : Nat) => (x : Int)⟩

def toL : Code.Last → RLast
  | .ret v => ⟨sRet, v, []⟩
  | .jump t => ⟨sJump, 0, [(t : Int)]⟩
  | .ifs v x y => ⟨sIf, v, [(x : Int), (y : Int)]⟩

def toB (b : Code.Blk) : RBlk := mkBlk (b.values.map toV) (toL b.last)

def toF (f : Code.Fn) : RFunc := ⟨f.args, f.blocks.map toB⟩

/-- A value's line, without its end. -/
def lineT (v : Code.Val) : List UInt8 := 118 :: (dec v.num ++ ([32, 61, 32] ++ textG v.thing))

theorem lineG_lineT (v : Code.Val) : lineG v = lineT v ++ [10] := by simp [lineG, lineT]

def ofW (of : List Nat) : List (List UInt8) := of.map fun x => 118 :: dec x

theorem ofText_join : ∀ (w : List UInt8) (of : List Nat), w ++ ofText of = joinW (w :: ofW of)
  | w, [] => by simp [ofText, ofW, joinW]
  | w, x :: of => by
    have := ofText_join (118 :: dec x) of
    show w ++ 32 :: 118 :: (dec x ++ ofText of) = w ++ 32 :: joinW ((118 :: dec x) :: ofW of)
    rw [← this]; simp

theorem ofW_32 (of : List Nat) : ∀ w ∈ ofW of, (32 : UInt8) ∉ w := by
  intro w hw
  obtain ⟨x, _, rfl⟩ := List.mem_map.1 hw
  intro h
  rcases List.mem_cons.1 h with e | h
  · revert e; decide
  · exact dec_32 x h

theorem words_joinW : ∀ (ws : List (List UInt8)), ws ≠ [] → (∀ w ∈ ws, (32 : UInt8) ∉ w) → words (joinW ws) = ws
  | [], h, _ => absurd rfl h
  | [w], _, h => words_one w (h w List.mem_cons_self)
  | w :: x :: r, _, h => by
    rw [joinW_more, words_app w _ (h w List.mem_cons_self), words_joinW (x :: r) (by simp) (fun y hy => h y (List.mem_cons_of_mem _ hy))]

theorem words_line (num : Nat) (w : List UInt8) (of : List Nat) (h : (32 : UInt8) ∉ w) : words (118 :: (dec num ++ ([32, 61, 32] ++ (w ++ ofText of)))) = (118 :: dec num) :: [61] :: w :: ofW of := by
  have h0 : (32 : UInt8) ∉ (118 :: dec num) := by
    intro h
    rcases List.mem_cons.1 h with e | h
    · revert e; decide
    · exact dec_32 num h
  have e : 118 :: (dec num ++ ([32, 61, 32] ++ (w ++ ofText of))) = joinW ((118 :: dec num) :: [61] :: w :: ofW of) := by
    rw [joinW_more, joinW_more, ← ofText_join w of]; simp
  rw [e]
  refine words_joinW _ (by simp) ?_
  intro x hx
  rcases List.mem_cons.1 hx with rfl | hx
  · exact h0
  · rcases List.mem_cons.1 hx with rfl | hx
    · decide
    · rcases List.mem_cons.1 hx with rfl | hx
      · exact h
      · exact ofW_32 of x hx

theorem words_line1 (num : Nat) (w x : List UInt8) (h : (32 : UInt8) ∉ w) (hx : (32 : UInt8) ∉ x) : words (118 :: (dec num ++ ([32, 61, 32] ++ (w ++ 32 :: x)))) = [118 :: dec num, [61], w, x] := by
  have h0 : (32 : UInt8) ∉ (118 :: dec num) := by
    intro h
    rcases List.mem_cons.1 h with e | h
    · revert e; decide
    · exact dec_32 num h
  have e : 118 :: (dec num ++ ([32, 61, 32] ++ (w ++ 32 :: x))) = joinW [118 :: dec num, [61], w, x] := by
    rw [joinW_more, joinW_more, joinW_more]; simp [joinW]
  rw [e]
  refine words_joinW _ (by simp) ?_
  intro y hy
  simp only [List.mem_cons, List.not_mem_nil, or_false] at hy
  rcases hy with rfl | rfl | rfl | rfl
  · exact h0
  · decide
  · exact h
  · exact hx

theorem vAll_of (of : List Nat) (h : ∀ x ∈ of, x < 60) : vAll true (ofW of) = true ∧ (ofW of).map vnum = of.map fun (x : Nat) => (x : Int) := by
  have e : (ofW of).map vnum = of.map fun (x : Nat) => (x : Int) := by
    unfold ofW
    rw [List.map_map]
    apply List.map_congr_left
    intro x hx
    exact vnum_of (h x hx)
  refine ⟨?_, e⟩
  unfold vAll
  rw [e]
  simp

theorem vAll_inv {ok : Bool} {ws : List (List UInt8)} (h : vAll ok ws = true) : ok = true ∧ ∃ of : List Nat, ws = ofW of ∧ (∀ x ∈ of, x < 60) := by
  unfold vAll at h
  simp only [Bool.and_eq_true, List.all_eq_true, decide_eq_true_eq] at h
  refine ⟨h.1, ?_⟩
  obtain ⟨_, h⟩ := h
  induction ws with
  | nil => exact ⟨[], rfl, by simp⟩
  | cons w ws ih =>
    obtain ⟨of, h1, h2⟩ := ih (fun x hx => h x (by simp only [List.map_cons]; exact List.mem_cons_of_mem _ hx))
    obtain ⟨n, h3, h4, _⟩ := vnum_inv (h (vnum w) (by simp))
    refine ⟨n :: of, by rw [h1, h3]; rfl, fun x hx => ?_⟩
    rcases List.mem_cons.1 hx with rfl | hx
    · exact h4
    · exact h2 x hx

theorem value_of (args : Nat) (phis : Bool) (v : Code.Val) (hn : v.num < 60) (h : WFT args v.thing) (ha : args ≤ 60) (hp : v.thing.isPhi = true → phis = true) : value args phis (lineT v) = (toV v, true) := by
  obtain ⟨num, thing⟩ := v
  have hV := vnum_of hn
  simp only at hV hn h hp
  cases thing with
  | phi of =>
    have hw := words_line num Code.sPhi of (by decide)
    have hphi : phis = true := hp rfl
    obtain ⟨h1, h2⟩ := vAll_of of h
    show valueOf args phis (words (118 :: (dec num ++ ([32, 61, 32] ++ (Code.sPhi ++ ofText of))))) = _
    rw [hw]
    unfold valueOf
    rw [if_neg (by simp)]
    simp only [List.getD_cons_zero, List.getD_cons_succ, List.drop_succ_cons, List.drop_zero, hV]
    rw [if_neg (by decide), if_neg (by decide), if_pos (show Code.sPhi = sPhi from rfl), h2, phiOk_yes (by rw [hV]; omega), hphi, h1]
    rfl
  | arg n =>
    have hw := words_line1 num sArg (dec n) (by decide) (dec_32 n)
    have hna : n < args := h
    have hN := number_of (n := n) (by omega)
    have e : lineT ⟨num, .arg n⟩ = 118 :: (dec num ++ ([32, 61, 32] ++ (sArg ++ 32 :: dec n))) := by simp [lineT, textG, sArg]
    unfold value
    rw [e, hw]
    unfold valueOf
    rw [if_neg (by simp)]
    simp only [List.getD_cons_zero, List.getD_cons_succ, hV, hN]
    rw [if_neg (by decide), if_pos trivial, if_pos (show [118 :: dec num, [61], sArg, dec n].length = 4 from rfl)]
    simp only [toV]
    simp; omega
  | const c =>
    have hw := words_line1 num sConst (digits c) (by decide) (digits_no c 32 rfl (by decide))
    have hN := signed_of h.1 h.2
    have e : lineT ⟨num, .const c⟩ = 118 :: (dec num ++ ([32, 61, 32] ++ (sConst ++ 32 :: digits c))) := by simp [lineT, textG, sConst]
    unfold value
    rw [e, hw]
    unfold valueOf
    rw [if_neg (by simp)]
    simp only [List.getD_cons_zero, List.getD_cons_succ, hV, hN]
    rw [if_pos trivial, if_pos (show [118 :: dec num, [61], sConst, digits c].length = 4 from rfl)]
    simp [toV]
  | apply k of =>
    obtain ⟨hk, hl, ho⟩ := h
    obtain ⟨a1, a2, a3, a4, a5, a6, a7⟩ := arity_name k hk
    have hw := words_line num (nameOf k) of a6
    obtain ⟨h1, h2⟩ := vAll_of of ho
    unfold value lineT textG
    rw [hw]
    unfold valueOf
    rw [if_neg (by simp)]
    simp only [List.getD_cons_zero, List.getD_cons_succ, List.drop_succ_cons, List.drop_zero, hV]
    rw [if_neg a3, if_neg a4, if_neg a5, h2, opOk_yes (by rw [hV]; omega) (by rw [a1]; omega) (by rw [a1, ← hl]; simp [ofW]; omega), h1]
    rfl

theorem words_inv {l : List UInt8} {ws : List (List UInt8)} (h : words l = ws) : l = joinW ws := by rw [← h]; exact words_join l

theorem value_inv {args : Nat} {phis : Bool} {l : List UInt8} (h : (value args phis l).2 = true) :
    ∃ v : Code.Val, l = lineT v ∧ v.num < 60 ∧ WFT args v.thing ∧ (v.thing.isPhi = true → phis = true) ∧ (value args phis l).1 = toV v ∧ isPhiB (value args phis l).1 = v.thing.isPhi := by
  unfold value at h ⊢
  have hj := words_join l
  generalize words l = ws at h hj ⊢
  unfold valueOf at h ⊢
  by_cases h0 : ws.length < 3 ∨ ws.getD 1 [] ≠ [61]
  · rw [if_pos h0] at h; cases h
  rw [if_neg h0] at h ⊢
  match ws, h0 with
  | [], h0 => exact absurd (Or.inl (by simp)) h0
  | [_], h0 => exact absurd (Or.inl (by simp)) h0
  | [_, _], h0 => exact absurd (Or.inl (by simp)) h0
  | a0 :: a1 :: op :: r, h0 =>
    have ha1 : a1 = [61] := by
      have := fun e => h0 (Or.inr e)
      simpa using this
    subst ha1
    simp only [List.getD_cons_zero, List.getD_cons_succ, List.drop_succ_cons, List.drop_zero, List.length_cons] at h ⊢
    clear h0
    by_cases c1 : op = sConst
    · subst c1
      rw [if_pos rfl] at h ⊢
      by_cases c2 : r.length + 1 + 1 + 1 = 4
      · rw [if_pos c2] at h ⊢
        match r, c2 with
        | [a3], _ =>
          simp only [List.getD_cons_zero, Bool.and_eq_true, decide_eq_true_eq] at h ⊢
          obtain ⟨n, g1, g2, g3⟩ := vnum_inv h.1
          obtain ⟨c, g4, g5, g6, g7⟩ := signed_inv h.2
          refine ⟨⟨n, .const c⟩, ?_, g2, ⟨g5, g6⟩, (by intro e; cases e), ?_, ?_⟩
          · rw [hj, g1, g4]; simp [joinW, lineT, textG, sConst]
          · rw [g3, g7]; rfl
          · show decide (sConst = sPhi) = false
            decide
      · rw [if_neg c2] at h; cases h
    · rw [if_neg c1] at h ⊢
      by_cases c3 : op = sArg
      · subst c3
        rw [if_pos rfl] at h ⊢
        by_cases c2 : r.length + 1 + 1 + 1 = 4
        · rw [if_pos c2] at h ⊢
          match r, c2 with
          | [a3], _ =>
            simp only [List.getD_cons_zero, Bool.and_eq_true, decide_eq_true_eq] at h ⊢
            obtain ⟨n, g1, g2, g3⟩ := vnum_inv h.1.1
            obtain ⟨m, g4, g5, g6⟩ := number_inv h.1.2
            refine ⟨⟨n, .arg m⟩, ?_, g2, ?_, (by intro e; cases e), ?_, ?_⟩
            · rw [hj, g1, g4]; simp [joinW, lineT, textG, sArg]
            · show m < args
              have := h.2
              rw [g6] at this; omega
            · rw [g3, g6]; rfl
            · show decide (sArg = sPhi) = false
              decide
        · rw [if_neg c2] at h; cases h
      · rw [if_neg c3] at h ⊢
        by_cases c4 : op = sPhi
        · subst c4
          rw [if_pos rfl] at h ⊢
          obtain ⟨g1, of, g2, g3⟩ := vAll_inv h
          have hv : 0 ≤ vnum a0 := by
            unfold phiOk at g1
            simp only [Bool.and_eq_true, decide_eq_true_eq] at g1
            exact g1.1
          obtain ⟨n, g4, g5, g6⟩ := vnum_inv hv
          rw [phiOk_yes hv] at g1
          refine ⟨⟨n, .phi of⟩, ?_, g5, g3, fun _ => g1, ?_, ?_⟩
          · rw [hj, g4, g2, joinW_more, joinW_more, ← ofText_join sPhi of]; simp [lineT, textG, sPhi, Code.sPhi]
          · rw [g6, g2, (vAll_of of g3).2]; rfl
          · exact decide_eq_true rfl
        · rw [if_neg c4] at h ⊢
          obtain ⟨g1, of, g2, g3⟩ := vAll_inv h
          unfold opOk at g1
          simp only [Bool.and_eq_true, decide_eq_true_eq] at g1
          obtain ⟨⟨hv, har⟩, hln⟩ := g1
          obtain ⟨n, g4, g5, g6⟩ := vnum_inv hv
          obtain ⟨k, hk, rfl⟩ := arity_inv har
          obtain ⟨a1, _⟩ := arity_name k hk
          refine ⟨⟨n, .apply k of⟩, ?_, g5, ⟨hk, ?_, g3⟩, (by intro e; cases e), ?_, ?_⟩
          · rw [hj, g4, g2, joinW_more, joinW_more, ← ofText_join (nameOf k) of]; simp [lineT, textG]
          · rw [a1, g2] at hln
            simp only [ofW, List.length_map] at hln
            omega
          · rw [g6, g2, (vAll_of of g3).2]; rfl
          · exact decide_eq_false c4

theorem isPhiB_toV (args : Nat) (v : Code.Val) (h : WFT args v.thing) : isPhiB (toV v) = v.thing.isPhi := by
  obtain ⟨num, thing⟩ := v
  cases thing with
  | phi of => exact decide_eq_true rfl
  | arg n => show decide (sArg = sPhi) = false; decide
  | const c => show decide (sConst = sPhi) = false; decide
  | apply k of => exact decide_eq_false (arity_name k h.1).2.2.2.2.1

theorem cons_32 {c : UInt8} {n : Nat} (h : (32 : UInt8) ≠ c) : (32 : UInt8) ∉ (c :: dec n) := by
  intro hh
  rcases List.mem_cons.1 hh with e | hh
  · exact h e
  · exact dec_32 n hh

theorem words_last (z : Code.Last) : words (lastG z) = match z with
    | .ret v => [sRet, 118 :: dec v]
    | .jump t => [sJump, 98 :: dec t]
    | .ifs v x y => [sIf, 118 :: dec v, 98 :: dec x, 98 :: dec y] := by
  cases z with
  | ret v =>
    have e : lastG (.ret v) = joinW [sRet, 118 :: dec v] := by simp [lastG, joinW, sRet]
    rw [e]
    refine words_joinW _ (by simp) ?_
    intro y hy
    simp only [List.mem_cons, List.not_mem_nil, or_false] at hy
    rcases hy with rfl | rfl
    · decide
    · exact cons_32 (by decide)
  | jump t =>
    have e : lastG (.jump t) = joinW [sJump, 98 :: dec t] := by simp [lastG, joinW, sJump]
    rw [e]
    refine words_joinW _ (by simp) ?_
    intro y hy
    simp only [List.mem_cons, List.not_mem_nil, or_false] at hy
    rcases hy with rfl | rfl
    · decide
    · exact cons_32 (by decide)
  | ifs v x y =>
    have e : lastG (.ifs v x y) = joinW [sIf, 118 :: dec v, 98 :: dec x, 98 :: dec y] := by simp [lastG, joinW, sIf]
    rw [e]
    refine words_joinW _ (by simp) ?_
    intro y hy
    simp only [List.mem_cons, List.not_mem_nil, or_false] at hy
    rcases hy with rfl | rfl | rfl | rfl
    · decide
    · exact cons_32 (by decide)
    · exact cons_32 (by decide)
    · exact cons_32 (by decide)

theorem last_of (z : Code.Last) (h : WFL z) : last (lastG z) = (toL z, true) := by
  unfold last
  rw [words_last]
  cases z with
  | ret v =>
    have := vnum_of h
    unfold lastOf
    rw [if_pos ⟨rfl, rfl⟩]
    simp only [List.getD_cons_succ, List.getD_cons_zero, this, toL, toOk]
    simp
  | jump t =>
    have := after_of (c := 98) h
    unfold lastOf
    rw [if_neg (by simp [sJump, sRet]), if_pos ⟨rfl, rfl⟩]
    simp only [List.getD_cons_succ, List.getD_cons_zero, this, toL, toOk]
    simp
  | ifs v x y =>
    have h1 := vnum_of h.1
    have h2 := after_of (c := 98) h.2.1
    have h3 := after_of (c := 98) h.2.2
    unfold lastOf
    rw [if_neg (by simp), if_neg (by simp), if_pos ⟨rfl, rfl⟩]
    simp only [List.getD_cons_succ, List.getD_cons_zero, h1, h2, h3, toL, toOk]
    simp

theorem value_last (fargs : Int) (phis : Bool) (z : Code.Last) : (value fargs phis (lastG z)).2 = false := by
  unfold value
  rw [words_last]
  cases z with
  | ret v => unfold valueOf; rw [if_pos (Or.inl (by simp))]
  | jump t => unfold valueOf; rw [if_pos (Or.inl (by simp))]
  | ifs v x y =>
    unfold valueOf
    rw [if_pos (Or.inr ?_)]
    simp only [List.getD_cons_succ, List.getD_cons_zero]
    intro e
    injection e with e1 _
    revert e1; decide

theorem last_inv {l : List UInt8} (h : (last l).2 = true) : ∃ z : Code.Last, l = lastG z ∧ WFL z ∧ (last l).1 = toL z := by
  unfold last at h ⊢
  have hj := words_join l
  generalize words l = ws at h hj ⊢
  unfold lastOf at h ⊢
  by_cases c1 : ws.getD 0 [] = sRet ∧ ws.length = 2
  · rw [if_pos c1] at h ⊢
    match ws, c1 with
    | [a0, a1], c1 =>
      obtain ⟨rfl, _⟩ := c1
      simp only [List.getD_cons_succ, List.getD_cons_zero] at h ⊢
      simp only [toOk, Bool.and_eq_true, decide_eq_true_eq] at h
      obtain ⟨n, g1, g2, g3⟩ := vnum_inv h.1
      exact ⟨.ret n, by rw [hj, g1]; simp [joinW, lastG, sRet], g2, by rw [g3]; rfl⟩
  · rw [if_neg c1] at h ⊢
    by_cases c2 : ws.getD 0 [] = sJump ∧ ws.length = 2
    · rw [if_pos c2] at h ⊢
      match ws, c2 with
      | [a0, a1], c2 =>
        obtain ⟨rfl, _⟩ := c2
        simp only [List.getD_cons_succ, List.getD_cons_zero] at h ⊢
        simp only [toOk, Bool.and_eq_true, decide_eq_true_eq, List.all_cons] at h
        obtain ⟨n, g1, g2, g3⟩ := after_inv h.2.1
        exact ⟨.jump n, by rw [hj, g1]; simp [joinW, lastG, sJump], g2, by rw [g3]; rfl⟩
    · rw [if_neg c2] at h ⊢
      by_cases c3 : ws.getD 0 [] = sIf ∧ ws.length = 4
      · rw [if_pos c3] at h ⊢
        match ws, c3 with
        | [a0, a1, a2, a3], c3 =>
          obtain ⟨rfl, _⟩ := c3
          simp only [List.getD_cons_succ, List.getD_cons_zero] at h ⊢
          simp only [toOk, Bool.and_eq_true, decide_eq_true_eq, List.all_cons] at h
          obtain ⟨n, g1, g2, g3⟩ := vnum_inv h.1
          obtain ⟨x, g4, g5, g6⟩ := after_inv h.2.1
          obtain ⟨y, g7, g8, g9⟩ := after_inv h.2.2.1
          exact ⟨.ifs n x y, by rw [hj, g1, g4, g7]; simp [joinW, lastG, sIf], ⟨g2, g5, g8⟩, by rw [g3, g6, g9]; rfl⟩
      · rw [if_neg c3] at h; cases h

/-! Whole functions. -/

/-- A block's lines, without their ends. -/
def linesB (k : Nat) (b : Code.Blk) : List (List UInt8) := headOf k :: (b.values.map lineT ++ [lastG b.last])

def linesBs : Nat → List Code.Blk → List (List UInt8)
  | _, [] => []
  | k, b :: r => linesB k b ++ linesBs (k + 1) r

theorem go_vals (args : Nat) (ha : args ≤ 60) (n : Nat) : ∀ (l : List Code.Val) (phis : Bool) (acc : List RVal) (z : Code.Last) (t : List (List UInt8)), (∀ v ∈ l, v.num < 60 ∧ WFT args v.thing) → PhisFirst phis l → WFL z →
    go args (some (phis, acc)) n (l.map lineT ++ lastG z :: t) = (go args none (n + 1) t).map (mkBlk (acc ++ l.map toV) (toL z) :: ·)
  | [], phis, acc, z, t, _, _, hz => by
    show go args (some (phis, acc)) n (lastG z :: t) = _
    rw [go_line, value_last, last_of z hz]
    simp
  | v :: l, phis, acc, z, t, h, hp, hz => by
    have hv := h v List.mem_cons_self
    have e := value_of args phis v hv.1 hv.2 ha hp.1
    show go args (some (phis, acc)) n (lineT v :: (l.map lineT ++ lastG z :: t)) = _
    rw [go_line, e]
    simp only [if_true]
    rw [isPhiB_toV args v hv.2, go_vals args ha n l v.thing.isPhi (acc ++ [toV v]) z t (fun x hx => h x (List.mem_cons_of_mem _ hx)) hp.2 hz]
    simp

theorem go_blocks (args : Nat) (ha : args ≤ 60) : ∀ (l : List Code.Blk) (k : Nat), k + l.length ≤ 8 → (∀ b ∈ l, WFB args b) → go args none k (linesBs k l) = some (l.map toB)
  | [], k, _, _ => by simp [linesBs, go]
  | b :: l, k, hk, h => by
    simp only [List.length_cons] at hk
    have hb := h b List.mem_cons_self
    have ih := go_blocks args ha l (k + 1) (by omega) (fun x hx => h x (List.mem_cons_of_mem _ hx))
    have e : linesBs k (b :: l) = headOf k :: (b.values.map lineT ++ lastG b.last :: linesBs (k + 1) l) := by simp [linesBs, linesB]
    rw [e, go_head, if_pos ⟨rfl, by omega⟩, go_vals args ha k b.values true [] b.last _ hb.vals hb.phis hb.last, ih]
    simp [toB]

theorem name_10 (of : List Nat) : (10 : UInt8) ∉ ofText of := by
  induction of with
  | nil => simp [ofText]
  | cons x l ih =>
    intro h
    unfold ofText at h
    rcases List.mem_cons.1 h with e | h
    · revert e; decide
    · rcases List.mem_cons.1 h with e | h
      · revert e; decide
      · rcases List.mem_append.1 h with h | h
        · exact dec_10 x h
        · exact ih h

theorem lineT_10 (args : Nat) (v : Code.Val) (h : WFT args v.thing) : (10 : UInt8) ∉ lineT v := by
  obtain ⟨num, thing⟩ := v
  intro hh
  unfold lineT at hh
  rcases List.mem_cons.1 hh with e | hh
  · revert e; decide
  · rcases List.mem_append.1 hh with hh | hh
    · exact dec_10 _ hh
    · rcases List.mem_append.1 hh with hh | hh
      · revert hh; decide
      · cases thing with
        | phi of =>
          rcases List.mem_append.1 hh with hh | hh
          · revert hh; decide
          · exact name_10 of hh
        | arg n =>
          rcases List.mem_append.1 hh with hh | hh
          · revert hh; decide
          · exact dec_10 n hh
        | const c =>
          rcases List.mem_append.1 hh with hh | hh
          · revert hh; decide
          · exact digits_no c 10 rfl (by decide) hh
        | apply k of =>
          rcases List.mem_append.1 hh with hh | hh
          · exact (arity_name k h.1).2.2.2.2.2.2 hh
          · exact name_10 of hh

theorem lastG_10 (z : Code.Last) : (10 : UInt8) ∉ lastG z := by
  cases z with
  | ret v =>
    intro hh
    rcases List.mem_append.1 hh with hh | hh
    · revert hh; decide
    · exact dec_10 v hh
  | jump t =>
    intro hh
    rcases List.mem_append.1 hh with hh | hh
    · revert hh; decide
    · exact dec_10 t hh
  | ifs v x y =>
    intro hh
    rcases List.mem_append.1 hh with hh | hh
    · revert hh; decide
    · rcases List.mem_append.1 hh with hh | hh
      · exact dec_10 v hh
      · rcases List.mem_append.1 hh with hh | hh
        · revert hh; decide
        · rcases List.mem_append.1 hh with hh | hh
          · exact dec_10 x hh
          · rcases List.mem_append.1 hh with hh | hh
            · revert hh; decide
            · exact dec_10 y hh

theorem headOf_10 (k : Nat) : (10 : UInt8) ∉ headOf k := by
  intro hh
  rcases List.mem_cons.1 hh with e | hh
  · revert e; decide
  · rcases List.mem_append.1 hh with hh | hh
    · exact dec_10 k hh
    · revert hh; decide

theorem lines_joinL : ∀ (ls : List (List UInt8)), (∀ l ∈ ls, (10 : UInt8) ∉ l) → lines (joinL ls) = (ls, true)
  | [], _ => rfl
  | l :: ls, h => by
    have ih := lines_joinL ls (fun x hx => h x (List.mem_cons_of_mem _ hx))
    have e : joinL (l :: ls) = l ++ 10 :: joinL ls := by simp [joinL]
    rw [e, lines_app l _ (h l List.mem_cons_self), ih]

theorem linesG_join (l : List Code.Val) : linesG l = joinL (l.map lineT) := by
  induction l with
  | nil => rfl
  | cons v l ih =>
    have e : linesG (v :: l) = lineG v ++ linesG l := by simp [linesG]
    rw [e, ih, lineG_lineT]; simp [joinL]

theorem joinL_app (a b : List (List UInt8)) : joinL (a ++ b) = joinL a ++ joinL b := by simp [joinL]

theorem blockG_join (k : Nat) (b : Code.Blk) : blockG k b = joinL (linesB k b) := by
  unfold blockG linesB
  rw [linesG_join]
  have e : headOf k :: (b.values.map lineT ++ [lastG b.last]) = [headOf k] ++ (b.values.map lineT ++ [lastG b.last]) := rfl
  rw [e, joinL_app, joinL_app]
  simp [joinL, headOf]

theorem blocksG_join : ∀ (l : List Code.Blk) (k : Nat), blocksG k l = joinL (linesBs k l)
  | [], _ => rfl
  | b :: l, k => by
    show blockG k b ++ blocksG (k + 1) l = joinL (linesB k b ++ linesBs (k + 1) l)
    rw [joinL_app, blockG_join, blocksG_join l (k + 1)]

theorem linesB_10 (args k : Nat) (b : Code.Blk) (h : WFB args b) : ∀ l ∈ linesB k b, (10 : UInt8) ∉ l := by
  intro l hl
  rcases List.mem_cons.1 hl with rfl | hl
  · exact headOf_10 k
  · rcases List.mem_append.1 hl with hl | hl
    · obtain ⟨v, hv, rfl⟩ := List.mem_map.1 hl
      exact lineT_10 args v (h.vals v hv).2
    · rw [List.mem_singleton.1 hl]; exact lastG_10 _

theorem linesBs_10 (args : Nat) : ∀ (bl : List Code.Blk) (k : Nat), (∀ b ∈ bl, WFB args b) → ∀ l ∈ linesBs k bl, (10 : UInt8) ∉ l
  | [], _, _ => by simp [linesBs]
  | b :: bl, k, h => by
    intro l hl
    rcases List.mem_append.1 hl with hl | hl
    · exact linesB_10 args k b (h b List.mem_cons_self) l hl
    · exact linesBs_10 args bl (k + 1) (fun x hx => h x (List.mem_cons_of_mem _ hx)) l hl

/-- The first line, without its end. -/
def firstL (args : Nat) : List UInt8 := sFn ++ 32 :: dec args

theorem textF_join (g : Code.Fn) : textF g = joinL (firstL g.args :: linesBs 0 g.blocks) := by
  unfold textF
  rw [blocksG_join]
  simp [joinL, firstL, sFn, Code.sFunc]

theorem lines_textF (g : Code.Fn) (h : WFF g) : lines (textF g) = (firstL g.args :: linesBs 0 g.blocks, true) := by
  rw [textF_join]
  refine lines_joinL _ ?_
  intro l hl
  rcases List.mem_cons.1 hl with rfl | hl
  · intro hh
    rcases List.mem_append.1 hh with hh | hh
    · revert hh; decide
    · rcases List.mem_cons.1 hh with e | hh
      · revert e; decide
      · exact dec_10 _ hh
  · exact linesBs_10 g.args g.blocks 0 h.blocks l hl

theorem words_first (args : Nat) : words (firstL args) = [sFn, dec args] := by
  unfold firstL
  rw [words_app _ _ (by decide), words_one _ (dec_32 args)]

/-- A function as it is written is parsed as it is. -/
theorem parse_of (g : Code.Fn) (h : WFF g) (hs : (textF g).length ≤ 1500) : parse (textF g) = some (toF g) := by
  unfold parse
  rw [lines_textF g h, if_neg (by rintro (h | h); cases h; omega)]
  have ha := h.args
  have hn := number_of (n := g.args) (by omega)
  have hg := go_blocks g.args (by omega) g.blocks 0 (by have := h.most; omega) h.blocks
  show parseL (firstL g.args :: linesBs 0 g.blocks) = _
  unfold parseL
  simp only [words_first, List.length_cons, List.length_nil, List.getD_cons_zero, List.getD_cons_succ, hn]
  rw [if_neg (by simp), if_neg (by omega), hg]
  obtain ⟨args, bks⟩ := g
  cases bks with
  | nil => exact absurd rfl h.some
  | cons b r => rfl

theorem go_inv (args : Nat) : ∀ (t : List (List UInt8)) (st : Option (Bool × List RVal)) (n : Nat) (bl : List RBlk), n ≤ 8 → (st ≠ none → n < 8) → go args st n t = some bl →
    match st with
    | none => ∃ g : List Code.Blk, t = linesBs n g ∧ bl = g.map toB ∧ (∀ b ∈ g, WFB args b) ∧ n + g.length ≤ 8
    | some (phis, acc) => ∃ (l : List Code.Val) (z : Code.Last) (g : List Code.Blk), t = l.map lineT ++ lastG z :: linesBs (n + 1) g ∧ bl = mkBlk (acc ++ l.map toV) (toL z) :: g.map toB ∧ (∀ b ∈ g, WFB args b) ∧ n + 1 + g.length ≤ 8 ∧
        (∀ v ∈ l, v.num < 60 ∧ WFT args v.thing) ∧ PhisFirst phis l ∧ WFL z
  | [], none, n, bl, hn, _, h => by
    simp only [go, Option.some.injEq] at h
    subst h
    exact ⟨[], rfl, rfl, by simp, by simpa using hn⟩
  | [], some (phis, acc), n, bl, _, _, h => by simp [go] at h
  | l :: t, none, n, bl, hn, _, h => by
    rw [go_head] at h
    by_cases hc : l = headOf n ∧ n ≠ 8
    · rw [if_pos hc] at h
      obtain ⟨vs, z, g, h1, h2, h3, h4, h5, h6, h7⟩ := go_inv args t (some (true, [])) n bl hn (fun _ => by omega) h
      refine ⟨⟨vs, z⟩ :: g, ?_, ?_, ?_, ?_⟩
      · rw [hc.1, h1]; simp [linesBs, linesB]
      · rw [h2]; simp [toB]
      · intro b hb
        rcases List.mem_cons.1 hb with rfl | hb
        · exact ⟨h5, h6, h7⟩
        · exact h3 b hb
      · simp only [List.length_cons]; omega
    · rw [if_neg hc] at h; cases h
  | l :: t, some (phis, acc), n, bl, hn, hn8, h => by
    have hn8' := hn8 (by simp)
    rw [go_line] at h
    by_cases hv : (value args phis l).2 = true
    · rw [if_pos hv] at h
      obtain ⟨v, g1, g2, g3, g4, g5, g6⟩ := value_inv hv
      rw [g6, g5] at h
      obtain ⟨vs, z, g, h1, h2, h3, h4, h5, h6, h7⟩ := go_inv args t (some (v.thing.isPhi, acc ++ [toV v])) n bl hn (fun _ => hn8') h
      refine ⟨v :: vs, z, g, ?_, ?_, h3, h4, ?_, ⟨g4, h6⟩, h7⟩
      · rw [g1, h1]; rfl
      · rw [h2]; simp
      · intro x hx
        rcases List.mem_cons.1 hx with rfl | hx
        · exact ⟨g2, g3⟩
        · exact h5 x hx
    · rw [if_neg hv] at h
      by_cases hl : (last l).2 = true
      · rw [if_pos hl] at h
        obtain ⟨z, g1, g2, g3⟩ := last_inv hl
        cases hg : go args none (n + 1) t with
        | none => rw [hg] at h; cases h
        | some q =>
          rw [hg] at h
          simp only [Option.map_some, Option.some.injEq] at h
          obtain ⟨g, h1, h2, h3, h4⟩ := go_inv args t none (n + 1) q (by omega) (fun h => absurd rfl h) hg
          refine ⟨[], z, g, ?_, ?_, h3, h4, by simp, trivial, g2⟩
          · rw [g1, h1]; rfl
          · rw [← h, g3, h2]; simp
      · rw [if_neg hl] at h; cases h

/-- What is parsed was written so. -/
theorem parse_inv {s : List UInt8} {rf : RFunc} (h : parse s = some rf) : ∃ g : Code.Fn, s = textF g ∧ WFF g ∧ rf = toF g ∧ s.length ≤ 1500 := by
  unfold parse at h
  by_cases hc : (lines s).2 = false ∨ 1500 < s.length
  · rw [if_pos hc] at h; cases h
  rw [if_neg hc] at h
  have hok : (lines s).2 = true := by
    cases hl : (lines s).2 with
    | true => rfl
    | false => exact absurd (Or.inl hl) hc
  have hlen : s.length ≤ 1500 := by
    rcases Nat.lt_or_ge 1500 s.length with h | h
    · exact absurd (Or.inr h) hc
    · exact h
  have hj := lines_join hok
  generalize (lines s).1 = ls at h hj
  cases ls with
  | nil => cases h
  | cons l t =>
    unfold parseL at h
    simp only at h
    by_cases h1 : (words l).length ≠ 2 ∨ (words l).getD 0 [] ≠ sFn
    · rw [if_pos h1] at h; cases h
    rw [if_neg h1] at h
    have hw := words_join l
    generalize words l = ws at h h1 hw
    match ws, h1 with
    | [], h1 => exact absurd (Or.inl (by simp)) h1
    | [_], h1 => exact absurd (Or.inl (by simp)) h1
    | _ :: _ :: _ :: _, h1 => exact absurd (Or.inl (by simp)) h1
    | [a0, a1], h1 =>
      have ha0 : a0 = sFn := by
        have := fun e => h1 (Or.inr e)
        simpa using this
      subst ha0
      simp only [List.getD_cons_zero, List.getD_cons_succ] at h
      by_cases h2 : number a1 < 0 ∨ 4 < number a1
      · rw [if_pos h2] at h; cases h
      rw [if_neg h2] at h
      obtain ⟨n, g1, g2, g3⟩ := number_inv (by
        rcases Int.lt_or_le (number a1) 0 with h | h
        · exact absurd (Or.inl h) h2
        · exact h : 0 ≤ number a1)
      rw [g3] at h
      have hn4 : n ≤ 4 := by
        rcases Int.lt_or_le 4 (number a1) with h | h
        · exact absurd (Or.inr h) h2
        · omega
      cases hg : go (n : Int) none 0 t with
      | none => rw [hg] at h; cases h
      | some bl =>
        rw [hg] at h
        cases bl with
        | nil => cases h
        | cons b r =>
          simp only [Option.some.injEq] at h
          obtain ⟨g, k1, k2, k3, k4⟩ := go_inv n t none 0 (b :: r) (by omega) (fun h => absurd rfl h) hg
          refine ⟨⟨n, g⟩, ?_, ⟨by show n < 5; omega, ?_, by show g.length ≤ 8; omega, k3⟩, ?_, hlen⟩
          · rw [hj, textF_join]
            have e : l = firstL n := by rw [hw, g1]; rfl
            rw [e, k1]
          · rintro rfl
            cases k2
          · rw [← h, k2]; rfl
end Ref
end Go.Proofs.YtedkjanogjglkaaDoor.D


namespace Go.Proofs.YtedkjanogjglkaaDoor

theorem held_mono {P : Program} {md : Region.Mode} {ops : Array Oper} {Q : Exit → Act → World → Prop} {S S' : World → Prop} (hS : ∀ w, S' w → S w) :
    ∀ (fuel : Nat) (listed : Array Bool) (a : Act) (w : World), wpAnyH P md ops Q S' fuel listed a w → wpAnyH P md ops Q S fuel listed a w
  | 0, _, _, _, h => h
  | fuel + 1, _, _, _, h => ⟨h.1, fun i hi => wpOp_mono (fun a' w' h' => ⟨hS _ h'.1, held_mono hS fuel _ a' w' h'.2⟩) (h.2 i hi)⟩
end Go.Proofs.YtedkjanogjglkaaDoor


namespace Go.Proofs.YtedkjanogjglkaaDoor
open Go.RowKit

set_option maxRecDepth 100000 in
set_option maxHeartbeats 2000000 in
theorem thing_argNo (rb : Nat) (s r2 : List UInt8) (l : Int) (a : Nat) (w : World) (hr : RdF w rb s l a) (hs : s.length ≤ 3000)
    (h2 : Code.word s = Code.sArg) (hc2 : Code.cut [32] (Code.behind s) = some r2) (hb : Code.below a r2 = none) :
    Calls Tryd.prog 95 #[.pointer (some ⟨rb, 0, none⟩)] w fun e w' => Fails w rb 1 e w' := by
  have hlb0 : (Code.behind s).length ≤ s.length := Code.rest_length _ _ _
  have hlb : (Code.behind s).length ≤ 3000 := by omega
  have h1 : Code.word s ≠ Code.sPhi := by rw [h2]; decide
  have q1 := word_no h1
  have q2 := word_yes h2
  unfold Code.sPhi at q1
  unfold Code.sArg at q2
  clear h1 h2
  go_enter Tryd.func95, Tryd.ntmps95
  go_wp2_with fail
  refine (letters_any rb _ s l 1 _ w hr hs).mono ?_
  rintro e w1 ⟨rfl, hr1, hg1⟩
  generalize Code.word s = ww at *
  generalize Code.behind s = bb at *
  go_wp2_with fail
  refine (take_any rb _ bb [32] l 1 _ w1 hr1 hlb (by simp)).mono ?_
  rintro e w2 (⟨r2', hc, rfl, hr2, hg2⟩ | ⟨hc, _⟩)
  case inr => rw [hc2] at hc; cases hc
  obtain rfl : r2 = r2' := Option.some.inj (hc2.symm.trans hc)
  have l2 := Code.cut_length hc
  simp only [List.length_cons, List.length_nil] at l2
  clear hc hc2
  have c3 := hr2.c3
  have HB : Hid (∀ (w' : World), RdF w' rb r2 l a → Calls Tryd.prog 65 #[.pointer (some ⟨rb, 0, none⟩), .int .i64 (a : Nat)] w' fun e w'' => Fails w' rb 1 e w'') := hide fun w' h => by
    refine (below_any rb _ r2 l 1 a _ w' h (by omega)).mono ?_
    rw [hb]
    rintro e w'' (⟨_, _, h', _⟩ | ⟨_, h'⟩)
    · cases h'
    · exact h'
  clear hb
  go_wp2_with fail
  refine wp_region_held_drew (S := fun w' => w'.cell? ⟨rb, 3, none⟩ = some (.int .i64 (a : Nat))) (by kernel_rfl) c3 (fun hHeld => ?_)
  refine wpAnyH_take (i := 0) (v := .pointer (some ⟨rb, 0, none⟩)) rfl (by kernel_rfl) (by kernel_rfl) (by kernel_rfl) (fun _ _ _ h => h) (Or.inl ⟨by rfl, fun w' hh => by go_simp⟩) c3 ?_
  try simp only [Act.put, List.getElem_toArray, List.getElem_cons_zero, List.setIfInBounds_toArray, List.set_cons_zero, List.set_cons_succ]
  refine wpAnyH_take (i := 1) (v := .pointer (some ⟨rb, 0, none⟩)) rfl (by kernel_rfl) (by kernel_rfl) (by kernel_rfl) (fun _ _ _ h => h) (Or.inl ⟨by rfl, fun w' hh => by go_simp⟩) c3 ?_
  try simp only [Act.put, List.getElem_toArray, List.getElem_cons_zero, List.getElem_cons_succ, List.setIfInBounds_toArray, List.set_cons_zero, List.set_cons_succ]
  refine wpAnyH_take (i := 2) (v := .pointer (some ⟨rb, 0, none⟩)) rfl (by kernel_rfl) (by kernel_rfl) (by kernel_rfl) (fun _ _ _ h => h) (Or.inl ⟨by rfl, fun w' hh => by go_simp⟩) c3 ?_
  try simp only [Act.put, List.getElem_toArray, List.getElem_cons_zero, List.getElem_cons_succ, List.setIfInBounds_toArray, List.set_cons_zero, List.set_cons_succ]
  refine wpAnyH_take (i := 3) (v := .pointer (some ⟨rb, 0, none⟩)) rfl (by kernel_rfl) (by kernel_rfl) (by kernel_rfl) (fun _ _ _ h => h) (Or.inl ⟨by rfl, fun w' hh => by go_simp⟩) c3 ?_
  try simp only [Act.put, List.getElem_toArray, List.getElem_cons_zero, List.getElem_cons_succ, List.setIfInBounds_toArray, List.set_cons_zero, List.set_cons_succ]
  refine wpAnyH_take (i := 4) (v := .pointer (some ⟨rb, 0, none⟩)) rfl (by kernel_rfl) (by kernel_rfl) (by kernel_rfl) (fun _ _ _ h => h) (Or.inl ⟨by rfl, fun w' hh => by go_simp⟩) c3 ?_
  try simp only [Act.put, List.getElem_toArray, List.getElem_cons_zero, List.getElem_cons_succ, List.setIfInBounds_toArray, List.set_cons_zero, List.set_cons_succ]
  refine wpAnyH_take (i := 5) (v := .pointer (some ⟨rb, 3, none⟩)) rfl (by kernel_rfl) (by kernel_rfl) (by kernel_rfl) (fun _ _ _ h => h) (Or.inl ⟨by rfl, fun w' hh => by go_simp⟩) c3 ?_
  try simp only [Act.put, List.getElem_toArray, List.getElem_cons_zero, List.getElem_cons_succ, List.setIfInBounds_toArray, List.set_cons_zero, List.set_cons_succ]
  refine wpAnyH_take (i := 6) (v := .int .i64 (a : Nat)) rfl (by kernel_rfl) (by kernel_rfl) (by kernel_rfl) (fun _ _ _ h => h) (Or.inl ⟨by rfl, fun w' hh => by go_simp⟩) c3 ?_
  try simp only [Act.put, List.getElem_toArray, List.getElem_cons_zero, List.getElem_cons_succ, List.setIfInBounds_toArray, List.set_cons_zero, List.set_cons_succ]
  refine wpAnyH_ready (rs := [7]) (by kernel_rfl) (by simp) ?_
  refine AllReadyH.cons rfl (fun K hK => ?_) AllReadyH.nil
  rw [if_pos (by rfl)]
  go_wp2_with fail
  refine (HB.out w2.drew hr2).mono ?_
  rintro e w3 ⟨⟨l', rfl⟩, hg3⟩
  go_wp2
  exact ⟨rfl, ⟨l', rfl⟩, grown_trans hg1 (grown_trans hg2 (undrew hg3))⟩

theorem thing_all (rb : Nat) (s : List UInt8) (l : Int) (a : Nat) (w : World) (hr : RdF w rb s l a) (hs : s.length ≤ 3000) (ht : Tab w) (hrb : 0 < rb) :
    Calls Tryd.prog 95 #[.pointer (some ⟨rb, 0, none⟩)] w fun e w' =>
      (∃ y t v, Code.ThingOf a s (some (y, t)) ∧ e = .returned v ∧ ThingV w' w.heap.size y v ∧ RdF w' rb t l a ∧ t.length ≤ s.length ∧ w.grownBy w' (some rb)) ∨
      (Code.ThingOf a s none ∧ Fails w rb 1 e w') := by
  by_cases h : Code.word s = Code.sArg ∧ ∃ r, Code.cut [32] (Code.behind s) = some r ∧ Code.below a r = none
  · obtain ⟨h1, r, h2, h3⟩ := h
    refine (thing_argNo rb s r l a w hr hs h1 h2 h3).mono fun e w' hf => Or.inr ⟨?_, hf⟩
    have := Code.ThingOf.arg (args := a) h1
    rw [h2, Option.bind_some, h3] at this
    exact this
  · exact thing_any rb s l a w hr hs ht hrb fun h1 r h2 h3 => h ⟨h1, r, h2, h3⟩
end Go.Proofs.YtedkjanogjglkaaDoor


namespace Go.Proofs.YtedkjanogjglkaaDoor
open Go.RowKit

namespace Code
theorem ValuesOf.nextNo {a : Nat} {b : Bool} {s : List UInt8} (h : ValuesOf a b s none) :
    ∃ r, cut [118] s = some r ∧ (value s = none ∨ ∃ v t, value s = some (v, t) ∧ (cut [32, 61, 32] t = none ∨ ∃ u, cut [32, 61, 32] t = some u ∧ (ThingOf a u none ∨ ∃ y x, ThingOf a u (some (y, x)) ∧
      ((y.isPhi = true ∧ b = false) ∨ ((y.isPhi = true → b = true) ∧ (cut [10] x = none ∨ ∃ z, cut [10] x = some z ∧ ValuesOf a y.isPhi z none)))))) := by
  generalize ho : none = o at h
  cases h with
  | done h1 => cases ho
  | badV h1 h2 => exact ⟨_, h1, Or.inl h2⟩
  | badEq h1 h2 h3 => exact ⟨_, h1, Or.inr ⟨_, _, h2, Or.inl h3⟩⟩
  | badThing h1 h2 h3 h4 => exact ⟨_, h1, Or.inr ⟨_, _, h2, Or.inr ⟨_, h3, Or.inl h4⟩⟩⟩
  | badPhi h1 h2 h3 h4 h5 => exact ⟨_, h1, Or.inr ⟨_, _, h2, Or.inr ⟨_, h3, Or.inr ⟨_, _, h4, Or.inl ⟨h5, rfl⟩⟩⟩⟩⟩
  | badEnd h1 h2 h3 h4 h5 h6 => exact ⟨_, h1, Or.inr ⟨_, _, h2, Or.inr ⟨_, h3, Or.inr ⟨_, _, h4, Or.inr ⟨h5, Or.inl h6⟩⟩⟩⟩⟩
  | more h1 h2 h3 h4 h5 h6 h7 =>
    rename_i q
    cases q with
    | none => exact ⟨_, h1, Or.inr ⟨_, _, h2, Or.inr ⟨_, h3, Or.inr ⟨_, _, h4, Or.inr ⟨h5, Or.inr ⟨_, h6, h7⟩⟩⟩⟩⟩⟩
    | some q => cases ho
end Code

/-- What may be wrong behind a value's number, behind '=', behind its thing. -/
def cut3 (a : Nat) (b ph : Bool) (x : List UInt8) : Prop := (ph = true ∧ b = false) ∨ ((ph = true → b = true) ∧ (Code.cut [10] x = none ∨ ∃ z, Code.cut [10] x = some z ∧ Code.ValuesOf a ph z none))
def cut2' (a : Nat) (b : Bool) (u : List UInt8) : Prop := Code.ThingOf a u none ∨ ∃ y x, Code.ThingOf a u (some (y, x)) ∧ cut3 a b y.isPhi x
def cut1 (a : Nat) (b : Bool) (t : List UInt8) : Prop := Code.cut [32, 61, 32] t = none ∨ ∃ u, Code.cut [32, 61, 32] t = some u ∧ cut2' a b u

theorem thing_assert {w : World} {base : Nat} {y : Code.Thing} {th : Value} (h : ThingV w base y th) :
    ∃ T pv p n c, th = .iface T pv ∧ ∀ w, (Instr.typeAssert (.iface T pv) 91 148 true).run Tryd.prog w = .ok (.tuple #[.agg #[.slice p n c], .bool y.isPhi]) w := by
  cases y with
  | phi of =>
    obtain ⟨r, rfl, hro⟩ := h
    obtain ⟨p, c, rfl⟩ := own_slice hro
    exact ⟨_, _, _, _, _, rfl, fun w => isPhi_phi _ w⟩
  | arg m => exact ⟨_, _, _, _, _, h, fun w => isPhi_arg _ w⟩
  | const m => exact ⟨_, _, _, _, _, h, fun w => isPhi_const _ w⟩
  | apply k of =>
    obtain ⟨r, rfl, hro⟩ := h
    exact ⟨_, _, _, _, _, rfl, fun w => isPhi_apply _ w⟩

/-- A row of values, whatever they are. -/
def SomeVals (w : World) (base : Nat) (v : Value) (n : Nat) : Prop := ∃ cs, w.ownsRow base 93 2 v n cs

theorem SomeVals.kept {w w' : World} {base rb n : Nat} {v : Value} (h : SomeVals w base v n) {C : Array Value} {z : Nat × Nat} (hb : w.heap[rb]? = some (.cells C 119 z)) (hg : w.grownBy w' (some rb)) : SomeVals w' base v n := by
  obtain ⟨cs, h⟩ := h
  exact ⟨cs, own_kept hb hg h (by decide)⟩

set_option maxRecDepth 100000 in
set_option maxHeartbeats 4000000 in
theorem values_no (rb : Nat) (s : List UInt8) (l : Int) (a : Nat) (w : World) (hr : RdF w rb s l a) (hs : s.length ≤ 3000) (hl : 0 ≤ l ∧ l + s.length ≤ 100000) (ht : Tab w) (hrb : 0 < rb) (hv : Code.ValuesOf a true s none) :
    Calls Tryd.prog 78 #[.pointer (some ⟨rb, 0, none⟩)] w fun e w' => Fails w rb 1 e w' := by
  obtain ⟨i0, hi, hz0, hz1, hz2⟩ := info_parts infoVal
  have HT := hide ht
  clear ht
  go_enter Tryd.func78, Tryd.ntmps78
  go_wp2
  go_loopw [3, 4] (fun v ph wr => ∃ (k : Nat) (s' : List UInt8) (l' : Int) (b : Bool), ph = .bool b ∧ SomeVals wr w.heap.size v k ∧ RdF wr rb s' l' a ∧ 0 ≤ l' ∧ l' + s'.length ≤ 100000 ∧ s'.length ≤ s.length ∧ w.grownBy wr (some rb) ∧
      k + s'.length ≤ s.length ∧ Hid (Code.ValuesOf a b s' none))
    (fun _ _ wr => restLen wr rb)
  case atStart => exact ⟨0, s, l, true, rfl, ⟨[], World.ownsRow_nil _ _ _ _⟩, hr, hl.1, hl.2, Nat.le_refl _, grown_refl _ _, by simp, hide hv⟩
  case round =>
    obtain ⟨k, s', l', b, rfl, hrep, hrd, hl0, hl1, hsl, hgr, hdl, hsp⟩ := hrel
    have hm0 := hide (restLen_of hrd)
    have c0 := hrd.c0
    obtain ⟨r1, h1, hrest⟩ := hsp.out.nextNo
    have HC := hide h1
    have HR := hide hrest
    clear hsp h1 hrest
    go_wp2_with fail
    refine (hasPrefix2_any _ [118] wr (by omega) (by simp)).mono ?_
    rintro e wr ⟨rfl, rfl⟩
    rw [HC.out]
    clear HC c0
    go_wp2_with fail
    refine (value_any rb s' l' a wr hrd (by omega)).mono ?_
    rintro e w1 (⟨n, t1, hc, rfl, hr1, hg1⟩ | ⟨hc, ⟨lx, rfl⟩, hg1⟩)
    case inr =>
      go_wp2
      exact ⟨rfl, ⟨lx, rfl⟩, grown_trans hgr hg1⟩
    have hlv := Code.value_some hc
    have hrep1 := hrep.kept hrd hg1
    have hgr1 := grown_trans hgr hg1
    have HR1 : Hid (cut1 a b t1) := by
      rcases HR.out with h | ⟨v, t, h, h'⟩
      · rw [hc] at h; cases h
      · rw [hc] at h; cases h; exact h'
    clear hrep hrd hgr hg1 hc HR
    go_wp2_with fail
    refine (take_any rb _ t1 [32, 61, 32] l' 1 _ w1 hr1 (by omega) (by simp)).mono ?_
    rintro e w2 (⟨u, hc, rfl, hr2, hg2⟩ | ⟨hc, ⟨lx, rfl⟩, hg2⟩)
    case inr =>
      go_wp2
      exact ⟨rfl, ⟨lx, rfl⟩, grown_trans hgr1 hg2⟩
    have hl3 := Code.cut_length hc
    simp only [List.length_cons, List.length_nil] at hl3
    have hrep2 := hrep1.kept hr1 hg2
    have hgr2 := grown_trans hgr1 hg2
    have HR2 : Hid (cut2' a b u) := by
      rcases HR1.out with h | ⟨u', h, h'⟩
      · rw [hc] at h; cases h
      · rw [hc] at h; cases h; exact h'
    clear hrep1 hr1 hgr1 hg2 hc HR1
    have ht2 := HT.out.grown hgr2 hrb
    go_wp2_with fail
    refine (thing_all rb u l' a w2 hr2 (by omega) ht2 hrb).mono ?_
    rintro e w3 (⟨y, x, th, hc, rfl, hth, hr3, hxl, hg3⟩ | ⟨hc, ⟨lx, rfl⟩, hg3⟩)
    case inr =>
      go_wp2
      exact ⟨rfl, ⟨lx, rfl⟩, grown_trans hgr2 hg3⟩
    have hrep3 := hrep2.kept hr2 hg3
    have hgr3 := grown_trans hgr2 hg3
    have HR3 : Hid (cut3 a b y.isPhi x) := by
      rcases HR2.out with h | ⟨y', x', h, h'⟩
      · cases hc.det h
      · have := hc.det h
        simp only [Option.some.injEq, Prod.mk.injEq] at this
        obtain ⟨rfl, rfl⟩ := this
        exact h'
    obtain ⟨T, pv, p, n0, c, rfl, hta⟩ := thing_assert hth
    clear hrep2 hr2 hgr2 hg3 hth ht2 HR2 hc
    generalize y.isPhi = ph at *
    obtain ⟨cs3, hcs3⟩ := hrep3
    obtain ⟨ps, cps, rfl⟩ := own_slice hcs3
    rcases HR3.out with ⟨rfl, rfl⟩ | ⟨hp, hrest⟩
    · clear HR3
      go_wp2_with fail
      generalize hw4 : w3.alloc _ = w4
      have hr4 : RdF w4 rb x l' a := by rw [← hw4]; exact stay_alloc hr3
      have hgr4 : w.grownBy w4 (some rb) := grown_trans hgr3 (by rw [← hw4]; exact grown_alloc _ _ _)
      clear hw4
      refine (fail_any rb _ x l' 1 _ w4 hr4).mono ?_
      rintro e w5 ⟨⟨lx, rfl⟩, hg5⟩
      go_wp2
      exact ⟨rfl, ⟨lx, rfl⟩, grown_trans hgr4 hg5⟩
    · have HX := hide hrest
      clear HR3 hrest
      cases ph <;> cases b
      case true.false => exact absurd (hp rfl) (by decide)
      all_goals
        clear hp
        go_wp2_with fail
        generalize hw4 : w3.alloc _ = w4
        have hr4 : RdF w4 rb x l' a := by rw [← hw4]; exact stay_alloc hr3
        have hgr4 : w.grownBy w4 (some rb) := grown_trans hgr3 (by rw [← hw4]; exact grown_alloc _ _ _)
        have hb4 : Below w3.heap.size w3 w4 := by rw [← hw4]; exact below_al (Below.refl _ _) _
        have hcs4 := own_below hcs3 hb4
        clear hw4 hcs3 hb4
        refine (lineEnd_any rb x l' a w4 hr4 (by omega) ⟨hl0, by omega⟩).mono ?_
        rintro e w5 (⟨z, hc, rfl, hr5, hg5⟩ | ⟨hc, ⟨lx, rfl⟩, hg5⟩)
        case inr =>
          go_wp2
          exact ⟨rfl, ⟨lx, rfl⟩, grown_trans hgr4 hg5⟩
        have hl6 := Code.cut_length hc
        simp only [List.length_cons, List.length_nil] at hl6
        first
          | (have HN : Hid (Code.ValuesOf a true z none) := by
               rcases HX.out with h | ⟨z', h, h'⟩
               · rw [hc] at h; cases h
               · rw [hc] at h; cases h; exact h')
          | (have HN : Hid (Code.ValuesOf a false z none) := by
               rcases HX.out with h | ⟨z', h, h'⟩
               · rw [hc] at h; cases h
               · rw [hc] at h; cases h; exact h')
        have hgr5 := grown_trans hgr4 hg5
        have hz := hgr5.size
        obtain ⟨cs, hcs1⟩ := SomeVals.kept ⟨_, hcs4⟩ hr4 hg5
        clear hc HX hcs4
        go_wp2_with (first | (at_builtin; refine wpList_append_own _ rfl _ _ 85 rfl w.heap.size 93 i0 (.agg #[.int .i64 0, .nilIface]) 2 24 Tryd.underlying85 hi hz0 hz1 hz2 rfl (by decide) _ _ _ rfl (hcs1.alloc _) ⟨_, 0, none⟩ 1 1 [.int .i64 n, .iface T pv] rfl rfl (cell_two_new _ _ _ _) (fun x hx => by simp at hx; rcases hx with rfl | rfl <;> rfl) (by unfold maxLen; omega) (by omega) (by simp; omega) ?_; intro v' w6 hown' hgrow6 hnil6))
        have hr6 : RdF w6 rb z (l' + 1) a := stay_grown (hcs1.alloc _) hgrow6 (stay_alloc hr5) (by decide)
        refine ⟨⟨k + 1, z, l' + 1, _, rfl, ⟨_, hown'⟩, hr6, by omega, by omega, by omega, grown_app hgr5 hgrow6 (fun q hq => (hcs1.lt q hq).1), by omega, HN⟩, ?_⟩
        rw [hm0.out, restLen_of hr6]; omega
end Go.Proofs.YtedkjanogjglkaaDoor
