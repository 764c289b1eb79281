/-
  Functions as they are written, with phis and more blocks: what is written is read as it is, and what is read was written so.
-/
import Derived.Test.YtedkjanogjglkaaDoorP10

namespace Go.Proofs.YtedkjanogjglkaaDoor.Code
open Go.Proofs.YtedkjanogjglkaaDoor.Ref (dec ch digits)

def textG : Thing → List UInt8
  | .phi of => sPhi ++ ofText of
  | .arg n => [97, 114, 103, 32] ++ dec n
  | .const c => [99, 111, 110, 115, 116, 32] ++ digits c
  | .apply k of => nameOf k ++ ofText of

def lineG (v : Val) : List UInt8 := 118 :: (dec v.num ++ ([32, 61, 32] ++ (textG v.thing ++ [10])))

def lastG : Last → List UInt8
  | .ret v => [114, 101, 116, 32, 118] ++ dec v
  | .jump t => [106, 117, 109, 112, 32, 98] ++ dec t
  | .ifs v x y => [105, 102, 32, 118] ++ (dec v ++ ([32, 98] ++ (dec x ++ ([32, 98] ++ dec y))))

def linesG (l : List Val) : List UInt8 := l.flatMap lineG

def blockG (k : Nat) (b : Blk) : List UInt8 := 98 :: (dec k ++ ([58, 10] ++ (linesG b.values ++ (lastG b.last ++ [10]))))

def blocksG : Nat → List Blk → List UInt8
  | _, [] => []
  | k, b :: r => blockG k b ++ blocksG (k + 1) r

def textF (f : Fn) : List UInt8 := sFunc ++ (dec f.args ++ (10 :: blocksG 0 f.blocks))

def WFT (args : Nat) : Thing → Prop
  | .phi of => ∀ x ∈ of, x < 60
  | .arg n => n < args
  | .const c => -2147483648 ≤ c ∧ c < 2147483648
  | .apply k of => k < 13 ∧ of.length = opOf k ∧ ∀ x ∈ of, x < 60

def PhisFirst : Bool → List Val → Prop
  | _, [] => True
  | b, v :: l => (v.thing.isPhi = true → b = true) ∧ PhisFirst v.thing.isPhi l

def WFL : Last → Prop
  | .ret v => v < 60
  | .jump t => t < 10 ^ 10
  | .ifs v x y => v < 60 ∧ x < 10 ^ 10 ∧ y < 10 ^ 10

structure WFB (args : Nat) (b : Blk) : Prop where
  vals : ∀ v ∈ b.values, v.num < 60 ∧ WFT args v.thing
  phis : PhisFirst true b.values
  last : WFL b.last

structure WFF (f : Fn) : Prop where
  args : f.args < 5
  some : f.blocks ≠ []
  most : f.blocks.length ≤ 8
  blocks : ∀ b ∈ f.blocks, WFB f.args b

def clipL : Last → Last
  | .ret v => .ret v
  | .jump t => .jump (min t 8)
  | .ifs v x y => .ifs v (min x 8) (min y 8)

def clipB (b : Blk) : Blk := ⟨b.values, clipL b.last⟩

def clip (f : Fn) : Fn := ⟨f.args, f.blocks.map clipB⟩

/-! What is written is read as it is. -/

theorem phiOf_text : ∀ (of : List Nat) (r : List UInt8), (∀ x ∈ of, x < 60) → PhiOf (ofText of ++ 10 :: r) (some (of, 10 :: r))
  | [], r, _ => PhiOf.done (cut_not (by decide))
  | x :: l, r, h => by
    have e : cut [32] (32 :: (118 :: (dec x ++ (ofText l ++ 10 :: r)))) = some (118 :: (dec x ++ (ofText l ++ 10 :: r))) := cut_app [32] _
    have ih := phiOf_text l r (fun y hy => h y (List.mem_cons_of_mem _ hy))
    have e0 : ofText (x :: l) ++ 10 :: r = 32 :: (118 :: (dec x ++ (ofText l ++ 10 :: r))) := by simp [ofText]
    rw [e0]
    exact PhiOf.more e (value_dec x _ (h x List.mem_cons_self) (ofText_stop l r)) ih

theorem thingG_text (args : Nat) (t : Thing) (h : WFT args t) (ha : args ≤ 60) (r : List UInt8) : ThingOf args (textG t ++ 10 :: r) (some (t, 10 :: r)) := by
  cases t with
  | phi of =>
    have e0 : ∃ c t, ofText of ++ 10 :: r = c :: t ∧ isIn 97 122 c = false := by
      cases of with
      | nil => exact ⟨10, r, rfl, rfl⟩
      | cons x l => exact ⟨32, _, rfl, rfl⟩
    obtain ⟨c, t, ht, hc⟩ := e0
    have hw : word (sPhi ++ c :: t) = sPhi ∧ behind (sPhi ++ c :: t) = c :: t := by
      constructor
      · show (112 :: 104 :: 105 :: c :: t).takeWhile (isIn 97 122) = sPhi
        simp [List.takeWhile, hc, show isIn 97 122 112 = true from rfl, show isIn 97 122 104 = true from rfl, show isIn 97 122 105 = true from rfl, sPhi]
      · show (112 :: 104 :: 105 :: c :: t).dropWhile (isIn 97 122) = c :: t
        simp [List.dropWhile, hc, show isIn 97 122 112 = true from rfl, show isIn 97 122 104 = true from rfl, show isIn 97 122 105 = true from rfl]
    have hp := phiOf_text of r h
    rw [ht] at hp
    have hT := ThingOf.phi (args := args) (s := sPhi ++ c :: t) hw.1 (by rw [hw.2]; exact hp)
    show ThingOf args ((sPhi ++ ofText of) ++ 10 :: r) _
    rw [List.append_assoc, ht]
    exact hT
  | arg n => exact thing_text args (.arg n) h ha r
  | const c => exact thing_text args (.const c) h ha r
  | apply k of => exact thing_text args (.apply k of) h ha r

theorem valuesG_text (args : Nat) (ha : args ≤ 60) : ∀ (l : List Val) (b : Bool) (r : List UInt8), (∀ v ∈ l, v.num < 60 ∧ WFT args v.thing) → PhisFirst b l → cut [118] r = none → ValuesOf args b (linesG l ++ r) (some (l, r))
  | [], b, r, _, _, hr => ValuesOf.done hr
  | v :: l, b, r, h, hp, hr => by
    obtain ⟨hv, hg⟩ := h v List.mem_cons_self
    have ih := valuesG_text args ha l v.thing.isPhi r (fun x hx => h x (List.mem_cons_of_mem _ hx)) hp.2 hr
    have e : linesG (v :: l) ++ r = 118 :: (dec v.num ++ ([32, 61, 32] ++ (textG v.thing ++ 10 :: (linesG l ++ r)))) := by simp [linesG, lineG]
    rw [e]
    have h1 : cut [118] (118 :: (dec v.num ++ ([32, 61, 32] ++ (textG v.thing ++ 10 :: (linesG l ++ r))))) = some _ := cut_app [118] _
    have h2 := value_dec v.num ([32, 61, 32] ++ (textG v.thing ++ 10 :: (linesG l ++ r))) hv (stop32 _)
    have h3 := cut_app [32, 61, 32] (textG v.thing ++ 10 :: (linesG l ++ r))
    have h4 := thingG_text args v.thing hg ha (linesG l ++ r)
    have h5 : cut [10] (10 :: (linesG l ++ r)) = some _ := cut_app [10] _
    exact ValuesOf.more h1 h2 h3 h4 hp.1 h5 ih

theorem target_dec (n : Nat) (r : List UInt8) (h : n < 10 ^ 10) (hr : Stop r) : target (98 :: (dec n ++ r)) = some (min n 8, r) := by
  have e : cut [98] (98 :: (dec n ++ r)) = some (dec n ++ r) := cut_app [98] _
  unfold target
  rw [e, Option.bind_some, number_dec n r h hr]
  rfl

theorem last_text (z : Last) (h : WFL z) (r : List UInt8) : last (lastG z ++ 10 :: r) = some (clipL z, 10 :: r) := by
  cases z with
  | ret v =>
    have e0 : lastG (.ret v) ++ 10 :: r = [114, 101, 116, 32, 118] ++ (dec v ++ 10 :: r) := by simp [lastG]
    rw [e0]
    have e1 : behind ([114, 101, 116, 32, 118] ++ (dec v ++ 10 :: r)) = 32 :: (118 :: (dec v ++ 10 :: r)) := rfl
    have e2 : cut [32] (32 :: (118 :: (dec v ++ 10 :: r))) = some (118 :: (dec v ++ 10 :: r)) := cut_app [32] _
    have ew : word ([114, 101, 116, 32, 118] ++ (dec v ++ 10 :: r)) = sRet := rfl
    unfold last
    rw [if_pos ew, e1, e2, Option.bind_some, value_dec v (10 :: r) h (stop10 r)]
    rfl
  | jump t =>
    have e0 : lastG (.jump t) ++ 10 :: r = [106, 117, 109, 112, 32, 98] ++ (dec t ++ 10 :: r) := by simp [lastG]
    rw [e0]
    have e1 : behind ([106, 117, 109, 112, 32, 98] ++ (dec t ++ 10 :: r)) = 32 :: (98 :: (dec t ++ 10 :: r)) := rfl
    have e2 : cut [32] (32 :: (98 :: (dec t ++ 10 :: r))) = some (98 :: (dec t ++ 10 :: r)) := cut_app [32] _
    have ew : word ([106, 117, 109, 112, 32, 98] ++ (dec t ++ 10 :: r)) = sJump := rfl
    unfold last
    rw [ew, if_neg (by decide), if_pos (rfl : sJump = sJump), e1, e2, Option.bind_some, target_dec t (10 :: r) h (stop10 r)]
    rfl
  | ifs v x y =>
    have e0 : lastG (.ifs v x y) ++ 10 :: r = [105, 102, 32, 118] ++ (dec v ++ (32 :: 98 :: (dec x ++ (32 :: 98 :: (dec y ++ 10 :: r))))) := by simp [lastG]
    rw [e0]
    have ew : word ([105, 102, 32, 118] ++ (dec v ++ (32 :: 98 :: (dec x ++ (32 :: 98 :: (dec y ++ 10 :: r)))))) = sIf := rfl
    have e1 : behind ([105, 102, 32, 118] ++ (dec v ++ (32 :: 98 :: (dec x ++ (32 :: 98 :: (dec y ++ 10 :: r)))))) = 32 :: (118 :: (dec v ++ (32 :: 98 :: (dec x ++ (32 :: 98 :: (dec y ++ 10 :: r)))))) := rfl
    have c1 : cut [32] (32 :: (118 :: (dec v ++ (32 :: 98 :: (dec x ++ (32 :: 98 :: (dec y ++ 10 :: r))))))) = some _ := cut_app [32] _
    have c2 : cut [32] (32 :: 98 :: (dec x ++ (32 :: 98 :: (dec y ++ 10 :: r)))) = some _ := cut_app [32] _
    have c3 : cut [32] (32 :: 98 :: (dec y ++ 10 :: r)) = some _ := cut_app [32] _
    unfold last
    rw [ew, if_neg (by decide), if_neg (by decide), if_pos (rfl : sIf = sIf), e1]
    unfold ifLast
    rw [c1, Option.bind_some, value_dec v _ h.1 (stop32 _), Option.bind_some, c2, Option.bind_some, target_dec x _ h.2.1 (stop32 _), Option.bind_some, c3, Option.bind_some, target_dec y _ h.2.2 (stop10 r)]
    rfl

theorem last_noV (z : Last) (r : List UInt8) : cut [118] (lastG z ++ r) = none := by
  cases z with
  | ret v => exact cut_not (by decide)
  | jump t => exact cut_not (by decide)
  | ifs v x y => exact cut_not (by decide)

theorem blockG_text (args : Nat) (ha : args ≤ 60) (k : Nat) (hk : k < 8) (b : Blk) (h : WFB args b) (r : List UInt8) : BlockIs args k (blockG k b ++ r) (clipB b) r := by
  have e : blockG k b ++ r = 98 :: (dec k ++ ([58, 10] ++ (linesG b.values ++ (lastG b.last ++ 10 :: r)))) := by simp [blockG]
  rw [e]
  refine BlockIs.mk (r1 := dec k ++ ([58, 10] ++ (linesG b.values ++ (lastG b.last ++ 10 :: r)))) (r2 := [58, 10] ++ (linesG b.values ++ (lastG b.last ++ 10 :: r))) (cut_app [98] _) ?_ (cut_app [58] _) (cut_app [10] _)
    (valuesG_text args ha b.values true (lastG b.last ++ 10 :: r) h.vals h.phis (last_noV _ _)) (last_text _ h.last r) (cut_app [10] r)
  unfold below
  rw [number_dec k ([58, 10] ++ (linesG b.values ++ (lastG b.last ++ 10 :: r))) (by omega) (stop_cons rfl), Option.bind_some, if_pos (by show (k : Int) < 8; omega)]

theorem blocksG_text (args : Nat) (ha : args ≤ 60) : ∀ (l : List Blk) (k : Nat), k + l.length ≤ 8 → (∀ b ∈ l, WFB args b) → BlocksIs args k (blocksG k l) (l.map clipB)
  | [], k, _, _ => BlocksIs.nil
  | b :: l, k, hk, h => by
    simp only [List.length_cons] at hk
    exact BlocksIs.cons (by simp [blocksG, blockG]) (blockG_text args ha k (by omega) b (h b List.mem_cons_self) _) (blocksG_text args ha l (k + 1) (by omega) (fun x hx => h x (List.mem_cons_of_mem _ hx)))

/-- A function as it is written is read as it is. -/
theorem textF_is (g : Fn) (h : WFF g) : FnIs (textF g) (clip g) := by
  obtain ⟨args, bks⟩ := g
  cases bks with
  | nil => exact absurd rfl h.some
  | cons b l =>
    have ha := h.args
    have hm := h.most
    simp only [List.length_cons] at ha hm
    refine FnIs.mk (r1 := dec args ++ (10 :: blocksG 0 (b :: l))) (r2 := 10 :: blocksG 0 (b :: l)) (r3 := blocksG 0 (b :: l)) (r4 := blocksG 1 l) (cut_app sFunc _) ?_ (cut_app [10] _) (blockG_text args (by omega) 0 (by omega) b (h.blocks b List.mem_cons_self) _) (blocksG_text args (by omega) l 1 (by omega) (fun x hx => h.blocks x (List.mem_cons_of_mem _ hx)))
    unfold below
    rw [number_dec args _ (by omega) (stop10 _), Option.bind_some, if_pos (by show (args : Int) < 5; omega)]

/-! What is read was written so. -/

theorem toNat_inj {a b : UInt8} (h : a.toNat = b.toNat) : a = b := UInt8.toNat.inj h

theorem dec_of : ∀ (n : Nat) (d : List UInt8), d.length = n → d ≠ [] → (∀ c ∈ d, isIn 48 57 c = true) → (d.head? = some 48 → d = [48]) → dec (numFold 0 d) = d
  | 0, d, hl, hne, _, _ => by simp at hl; exact absurd hl hne
  | n + 1, d, hl, hne, hin, hh => by
    obtain ⟨e, c, rfl⟩ : ∃ e c, d = e ++ [c] := ⟨d.dropLast, d.getLast hne, (List.dropLast_concat_getLast hne).symm⟩
    have hc := hin c (by simp)
    simp only [isIn, Bool.and_eq_true, decide_eq_true_eq] at hc
    have hc1 : 48 ≤ c.toNat := hc.1
    have hc2 : c.toNat ≤ 57 := hc.2
    have hch : ch (c.toNat - 48) = c := by
      apply toNat_inj
      rw [ch_toNat _ (by omega)]; omega
    rw [numFold_snoc]
    cases e with
    | nil =>
      show dec (10 * 0 + (c.toNat - 48)) = [c]
      have e1 : (10 * 0 + (c.toNat - 48)) % 10 = c.toNat - 48 := by omega
      rw [Ref.dec_small (by omega), e1, hch]
    | cons a t =>
      have ih := dec_of n (a :: t) (by simp at hl ⊢; omega) (by simp) (fun x hx => hin x (List.mem_append_left _ hx)) (fun h => by
        have := hh (by simpa using h)
        simp at this)
      have ha : a ≠ 48 := by
        rintro rfl
        have := hh rfl
        simp at this
      have hpos : 0 < numFold 0 (a :: t) := by
        rcases Nat.eq_zero_or_pos (numFold 0 (a :: t)) with h0 | h0
        · rw [h0] at ih
          have hz : dec 0 = [48] := rfl
          rw [hz] at ih
          injection ih with i1 i2
          exact absurd i1.symm ha
        · exact h0
      have e1 : (10 * numFold 0 (a :: t) + (c.toNat - 48)) / 10 = numFold 0 (a :: t) := by omega
      have e2 : (10 * numFold 0 (a :: t) + (c.toNat - 48)) % 10 = c.toNat - 48 := by omega
      rw [Ref.dec_big (by omega), e1, e2, ih, hch]

theorem fold_lt (d : List UInt8) (h : ∀ c ∈ d, isIn 48 57 c = true) : numFold 0 d < 10 ^ d.length := by
  have : ∀ (l : List UInt8), (∀ c ∈ l, isIn 48 57 c = true) → ∀ n k, n < 10 ^ k → numFold n l < 10 ^ (k + l.length) := by
    intro l
    induction l with
    | nil => intro _ n k hn; exact hn
    | cons c l ih =>
      intro hin n k hn
      have hc := hin c List.mem_cons_self
      simp only [isIn, Bool.and_eq_true, decide_eq_true_eq] at hc
      have hc1 : 48 ≤ c.toNat := hc.1
      have hc2 : c.toNat ≤ 57 := hc.2
      have := ih (fun x hx => hin x (List.mem_cons_of_mem _ hx)) (10 * n + (c.toNat - 48)) (k + 1) (by rw [Nat.pow_succ]; omega)
      show numFold (10 * n + (c.toNat - 48)) l < _
      have e : k + (c :: l).length = k + 1 + l.length := by simp; omega
      rw [e]; exact this
  have := this d h 0 0 (by simp)
  simpa using this

theorem number_inv {s t : List UInt8} {n : Nat} (h : number s = some (n, t)) : s = dec n ++ t ∧ n < 10 ^ 10 := by
  unfold number at h
  split at h
  · cases h
  · rename_i hb
    simp only [Option.some.injEq, Prod.mk.injEq] at h
    obtain ⟨rfl, rfl⟩ := h
    have hin : ∀ c ∈ run 48 57 s, isIn 48 57 c = true := by
      intro c hc
      have : ∀ (l : List UInt8), ∀ c ∈ l.takeWhile (isIn 48 57), isIn 48 57 c = true := by
        intro l
        induction l with
        | nil => intro c hc; simp at hc
        | cons a l ih =>
          intro c hc
          by_cases ha : isIn 48 57 a = true
          · rw [List.takeWhile_cons_of_pos ha] at hc
            rcases List.mem_cons.1 hc with rfl | hc
            · exact ha
            · exact ih c hc
          · rw [List.takeWhile_cons_of_neg ha] at hc; simp at hc
      exact this s c hc
    have h1 : run 48 57 s ≠ [] := fun h => hb (Or.inl h)
    have h2 : ¬ 10 < (run 48 57 s).length := fun h => hb (Or.inr (Or.inl h))
    have h3 : (run 48 57 s).head? = some 48 → run 48 57 s = [48] := fun h => Decidable.byContradiction fun h' => hb (Or.inr (Or.inr ⟨h, h'⟩))
    constructor
    · rw [dec_of _ _ rfl h1 hin h3]; exact (run_rest 48 57 s).symm
    · have := fold_lt _ hin
      have : 10 ^ (run 48 57 s).length ≤ 10 ^ 10 := Nat.pow_le_pow_right (by omega) (by omega)
      omega

theorem below_inv {lim : Int} {s t : List UInt8} {n : Nat} (h : below lim s = some (n, t)) : s = dec n ++ t ∧ (n : Int) < lim ∧ n < 10 ^ 10 := by
  unfold below at h
  cases hn : number s with
  | none => rw [hn] at h; cases h
  | some p =>
    obtain ⟨m, u⟩ := p
    rw [hn, Option.bind_some] at h
    split at h
    · cases h
      exact ⟨(number_inv hn).1, by assumption, (number_inv hn).2⟩
    · cases h

theorem value_inv {s t : List UInt8} {n : Nat} (h : value s = some (n, t)) : s = 118 :: (dec n ++ t) ∧ n < 60 := by
  unfold value at h
  cases hc : cut [118] s with
  | none => rw [hc] at h; cases h
  | some r =>
    rw [hc, Option.bind_some] at h
    obtain ⟨h1, h2, _⟩ := below_inv h
    exact ⟨by rw [cut_some hc, h1]; rfl, by omega⟩

theorem target_inv {s t : List UInt8} {n : Nat} (h : target s = some (n, t)) : ∃ m, s = 98 :: (dec m ++ t) ∧ m < 10 ^ 10 ∧ n = min m 8 := by
  unfold target at h
  cases hc : cut [98] s with
  | none => rw [hc] at h; cases h
  | some r =>
    rw [hc, Option.bind_some] at h
    cases hn : number r with
    | none => rw [hn] at h; cases h
    | some p =>
      obtain ⟨m, u⟩ := p
      rw [hn] at h
      simp only [Option.map_some, Option.some.injEq, Prod.mk.injEq] at h
      obtain ⟨rfl, rfl⟩ := h
      exact ⟨m, by rw [cut_some hc, (number_inv hn).1]; rfl, (number_inv hn).2, rfl⟩

theorem signed_inv {s t : List UInt8} {n : Int} (h : signed s = some (n, t)) : s = digits n ++ t ∧ -2147483648 ≤ n ∧ n < 2147483648 := by
  unfold signed at h
  split at h
  · rename_i r hc
    cases hn : number r with
    | none => rw [hn] at h; cases h
    | some p =>
      obtain ⟨m, u⟩ := p
      rw [hn, Option.bind_some] at h
      unfold signedOf at h
      split at h
      · cases h
      · rename_i h0
        simp only [if_true] at h
        split at h
        · cases h
        · rename_i hr
          simp only [Option.some.injEq, Prod.mk.injEq] at h
          obtain ⟨rfl, rfl⟩ := h
          have hm : m ≠ 0 := fun h => h0 ⟨rfl, h⟩
          refine ⟨?_, by omega, by omega⟩
          unfold digits
          rw [if_pos (by omega), cut_some hc, (number_inv hn).1]
          have e : (- -(m : Int)).toNat = m := by omega
          rw [e]; rfl
  · rename_i hc
    cases hn : number s with
    | none => rw [hn] at h; cases h
    | some p =>
      obtain ⟨m, u⟩ := p
      rw [hn, Option.bind_some] at h
      unfold signedOf at h
      split at h
      · cases h
      · simp only [Bool.false_eq_true, if_false] at h
        split at h
        · cases h
        · rename_i hr
          simp only [Option.some.injEq, Prod.mk.injEq] at h
          obtain ⟨rfl, rfl⟩ := h
          refine ⟨?_, by omega, by omega⟩
          unfold digits
          rw [if_neg (by omega), (number_inv hn).1]
          have e : ((m : Int)).toNat = m := by omega
          rw [e]

theorem phiOf_inv {s : List UInt8} {o : Option (List Nat × List UInt8)} (h : PhiOf s o) : ∀ of t, o = some (of, t) → s = ofText of ++ t ∧ ∀ x ∈ of, x < 60 := by
  induction h with
  | done hc =>
    intro of t ho
    simp only [Option.some.injEq, Prod.mk.injEq] at ho
    obtain ⟨rfl, rfl⟩ := ho
    exact ⟨rfl, by simp⟩
  | bad => intro of t ho; cases ho
  | @more s r t v o hc hv _ ih =>
    intro of t' ho
    cases o with
    | none => cases ho
    | some q =>
      simp only [Option.map_some, Option.some.injEq, Prod.mk.injEq] at ho
      obtain ⟨rfl, rfl⟩ := ho
      obtain ⟨h1, h2⟩ := ih q.1 q.2 rfl
      obtain ⟨h3, h4⟩ := value_inv hv
      refine ⟨?_, fun x hx => ?_⟩
      · rw [cut_some hc, h3, h1]; simp [ofText]
      · rcases List.mem_cons.1 hx with rfl | hx
        · exact h4
        · exact h2 x hx

theorem ofN_inv : ∀ (n : Nat) {s t : List UInt8} {of : List Nat}, ofN n s = some (of, t) → s = ofText of ++ t ∧ of.length = n ∧ ∀ x ∈ of, x < 60
  | 0, s, t, of, h => by
    simp only [ofN, Option.some.injEq, Prod.mk.injEq] at h
    obtain ⟨rfl, rfl⟩ := h
    exact ⟨rfl, rfl, by simp⟩
  | n + 1, s, t, of, h => by
    unfold ofN at h
    cases hc : cut [32] s with
    | none => rw [hc] at h; cases h
    | some r =>
      rw [hc, Option.bind_some] at h
      cases hv : value r with
      | none => rw [hv] at h; cases h
      | some p =>
        rw [hv, Option.bind_some] at h
        cases hq : ofN n p.2 with
        | none => rw [hq] at h; cases h
        | some q =>
          rw [hq] at h
          simp only [Option.map_some, Option.some.injEq, Prod.mk.injEq] at h
          obtain ⟨rfl, rfl⟩ := h
          obtain ⟨h1, h2, h3⟩ := ofN_inv n hq
          obtain ⟨h4, h5⟩ := value_inv hv
          refine ⟨?_, by simp [h2], fun x hx => ?_⟩
          · rw [cut_some hc, h4, h1]; simp [ofText]
          · rcases List.mem_cons.1 hx with rfl | hx
            · exact h5
            · exact h3 x hx

theorem opNamed_inv {w : List UInt8} {k : Nat} (h : opNamed w = some k) : k < 13 ∧ nameOf k = w := by
  unfold opNamed at h
  rw [List.findIdx?_eq_some_iff_getElem] at h
  obtain ⟨hk, he, _⟩ := h
  simp only [List.length_map] at hk
  have hk' : k < ops.length := hk
  refine ⟨hk', ?_⟩
  simp only [List.getElem_map, decide_eq_true_eq] at he
  unfold nameOf
  rw [List.getD_eq_getElem?_getD, List.getElem?_eq_getElem hk', Option.getD_some]
  exact he

theorem word_behind (s : List UInt8) : s = word s ++ behind s := (run_rest 97 122 s).symm

theorem thing_inv {a : Nat} {s t : List UInt8} {y : Thing} (h : ThingOf a s (some (y, t))) : s = textG y ++ t ∧ WFT a y := by
  generalize ho : some (y, t) = o at h
  cases h with
  | @phi o' hw hp =>
    cases o' with
    | none => cases ho
    | some q =>
      simp only [Option.map_some, Option.some.injEq, Prod.mk.injEq] at ho
      obtain ⟨rfl, rfl⟩ := ho
      obtain ⟨h1, h2⟩ := phiOf_inv hp q.1 q.2 rfl
      refine ⟨?_, h2⟩
      rw [word_behind s, hw, h1]; simp [textG]
  | arg hw =>
    cases hc : cut [32] (behind s) with
    | none => rw [hc] at ho; cases ho
    | some r =>
      rw [hc, Option.bind_some] at ho
      cases hb : below a r with
      | none => rw [hb] at ho; cases ho
      | some p =>
        rw [hb] at ho
        simp only [Option.map_some, Option.some.injEq, Prod.mk.injEq] at ho
        obtain ⟨rfl, rfl⟩ := ho
        obtain ⟨h1, h2, _⟩ := below_inv hb
        refine ⟨?_, ?_⟩
        · rw [word_behind s, hw, cut_some hc, h1]; simp [textG, sArg]
        · show p.1 < a; omega
  | const hw =>
    cases hc : cut [32] (behind s) with
    | none => rw [hc] at ho; cases ho
    | some r =>
      rw [hc, Option.bind_some] at ho
      cases hb : signed r with
      | none => rw [hb] at ho; cases ho
      | some p =>
        rw [hb] at ho
        simp only [Option.map_some, Option.some.injEq, Prod.mk.injEq] at ho
        obtain ⟨rfl, rfl⟩ := ho
        obtain ⟨h1, h2⟩ := signed_inv hb
        refine ⟨?_, h2⟩
        rw [word_behind s, hw, cut_some hc, h1]; simp [textG, sConst]
  | apply h1 h2 h3 =>
    unfold apply at ho
    cases hk : opNamed (word s) with
    | none => rw [hk] at ho; cases ho
    | some k =>
      rw [hk, Option.bind_some] at ho
      cases hb : ofN (opOf k) (behind s) with
      | none => rw [hb] at ho; cases ho
      | some p =>
        rw [hb] at ho
        simp only [Option.map_some, Option.some.injEq, Prod.mk.injEq] at ho
        obtain ⟨rfl, rfl⟩ := ho
        obtain ⟨g1, g2⟩ := opNamed_inv hk
        obtain ⟨g3, g4, g5⟩ := ofN_inv _ hb
        refine ⟨?_, g1, g4, g5⟩
        show s = (nameOf k ++ ofText p.1) ++ p.2
        rw [g2, List.append_assoc, ← g3]
        exact word_behind s

theorem values_inv {a : Nat} {b : Bool} {s : List UInt8} {o : Option (List Val × List UInt8)} (h : ValuesOf a b s o) :
    ∀ l t, o = some (l, t) → s = linesG l ++ t ∧ (∀ v ∈ l, v.num < 60 ∧ WFT a v.thing) ∧ PhisFirst b l := by
  induction h with
  | done hc =>
    intro l t ho
    simp only [Option.some.injEq, Prod.mk.injEq] at ho
    obtain ⟨rfl, rfl⟩ := ho
    exact ⟨rfl, by simp, trivial⟩
  | badV | badEq | badThing | badPhi | badEnd => intro l t ho; cases ho
  | @more b s r t u x z v y o _ hv hu hy hp hz _ ih =>
    intro l t' ho
    cases o with
    | none => cases ho
    | some q =>
      simp only [Option.map_some, Option.some.injEq, Prod.mk.injEq] at ho
      obtain ⟨rfl, rfl⟩ := ho
      obtain ⟨h1, h2, h3⟩ := ih q.1 q.2 rfl
      obtain ⟨h4, h5⟩ := value_inv hv
      obtain ⟨h6, h7⟩ := thing_inv hy
      refine ⟨?_, fun x hx => ?_, hp, h3⟩
      · rw [h4, cut_some hu, h6, cut_some hz, h1]; simp [linesG, lineG]
      · rcases List.mem_cons.1 hx with rfl | hx
        · exact ⟨h5, h7⟩
        · exact h2 x hx

theorem last_inv {s t : List UInt8} {z : Last} (h : last s = some (z, t)) : ∃ z', s = lastG z' ++ t ∧ WFL z' ∧ z = clipL z' := by
  unfold last at h
  split at h
  · rename_i hw
    cases hc : cut [32] (behind s) with
    | none => rw [hc] at h; cases h
    | some r =>
      rw [hc, Option.bind_some] at h
      cases hv : value r with
      | none => rw [hv] at h; cases h
      | some p =>
        rw [hv] at h
        simp only [Option.map_some, Option.some.injEq, Prod.mk.injEq] at h
        obtain ⟨rfl, rfl⟩ := h
        obtain ⟨h1, h2⟩ := value_inv hv
        exact ⟨.ret p.1, by rw [word_behind s, hw, cut_some hc, h1]; simp [lastG, sRet], h2, rfl⟩
  · split at h
    · rename_i hw
      cases hc : cut [32] (behind s) with
      | none => rw [hc] at h; cases h
      | some r =>
        rw [hc, Option.bind_some] at h
        cases hv : target r with
        | none => rw [hv] at h; cases h
        | some p =>
          rw [hv] at h
          simp only [Option.map_some, Option.some.injEq, Prod.mk.injEq] at h
          obtain ⟨rfl, rfl⟩ := h
          obtain ⟨m, h1, h2, h3⟩ := target_inv hv
          exact ⟨.jump m, by rw [word_behind s, hw, cut_some hc, h1]; simp [lastG, sJump], h2, by rw [h3]; rfl⟩
    · split at h
      · rename_i hw
        unfold ifLast at h
        cases hc : cut [32] (behind s) with
        | none => rw [hc] at h; cases h
        | some r =>
          rw [hc, Option.bind_some] at h
          cases hv : value r with
          | none => rw [hv] at h; cases h
          | some p =>
            rw [hv, Option.bind_some] at h
            cases hc2 : cut [32] p.2 with
            | none => rw [hc2] at h; cases h
            | some r2 =>
              rw [hc2, Option.bind_some] at h
              cases hq : target r2 with
              | none => rw [hq] at h; cases h
              | some q =>
                rw [hq, Option.bind_some] at h
                cases hc3 : cut [32] q.2 with
                | none => rw [hc3] at h; cases h
                | some r3 =>
                  rw [hc3, Option.bind_some] at h
                  cases hz : target r3 with
                  | none => rw [hz] at h; cases h
                  | some u =>
                    rw [hz] at h
                    simp only [Option.map_some, Option.some.injEq, Prod.mk.injEq] at h
                    obtain ⟨rfl, rfl⟩ := h
                    obtain ⟨h1, h2⟩ := value_inv hv
                    obtain ⟨m, h3, h4, h5⟩ := target_inv hq
                    obtain ⟨m', h6, h7, h8⟩ := target_inv hz
                    refine ⟨.ifs p.1 m m', ?_, ⟨h2, h4, h7⟩, by rw [h5, h8]; rfl⟩
                    rw [word_behind s, hw, cut_some hc, h1, cut_some hc2, h3, cut_some hc3, h6]; simp [lastG, sIf]
      · cases h

theorem block_inv {a k : Nat} {s t : List UInt8} {b : Blk} (h : BlockIs a k s b t) : ∃ g, s = blockG k g ++ t ∧ WFB a g ∧ b = clipB g ∧ k < 8 := by
  cases h with
  | @mk r1 r2 r3 r4 r5 r6 r7 vals z h1 h2 h3 h4 h5 h6 h7 =>
    obtain ⟨g1, g2, _⟩ := below_inv h2
    obtain ⟨g3, g4, g5⟩ := values_inv h5 _ _ rfl
    obtain ⟨z', g6, g7, rfl⟩ := last_inv h6
    refine ⟨⟨vals, z'⟩, ?_, ⟨g4, g5, g7⟩, rfl, by omega⟩
    rw [cut_some h1, g1, cut_some h3, cut_some h4, g3, g6, cut_some h7]; simp [blockG]

theorem blocks_inv {a k : Nat} {s : List UInt8} {l : List Blk} (h : BlocksIs a k s l) : ∃ g, s = blocksG k g ∧ (∀ b ∈ g, WFB a b) ∧ l = g.map clipB ∧ (g ≠ [] → k + g.length ≤ 8) := by
  induction h with
  | nil => exact ⟨[], rfl, by simp, rfl, by simp⟩
  | cons _ hb _ ih =>
    obtain ⟨b, h1, h2, h3, h4⟩ := block_inv hb
    obtain ⟨g, h5, h6, h7, h8⟩ := ih
    refine ⟨b :: g, by rw [h1, h5]; rfl, fun x hx => ?_, by rw [h3, h7]; rfl, fun _ => ?_⟩
    · rcases List.mem_cons.1 hx with rfl | hx
      · exact h2
      · exact h6 x hx
    · cases g with
      | nil => simp; omega
      | cons c g => have := h8 (by simp); simp only [List.length_cons] at this ⊢; omega

/-- What is read was written so. -/
theorem fnIs_inv {s : List UInt8} {f : Fn} (h : FnIs s f) : ∃ g, s = textF g ∧ WFF g ∧ f = clip g := by
  cases h with
  | @mk r1 r2 r3 r4 args b0 bs0 h1 h2 h3 h4 h5 =>
    obtain ⟨g1, g2, _⟩ := below_inv h2
    obtain ⟨b, g3, g4, g5, _⟩ := block_inv h4
    obtain ⟨g, g6, g7, g8, g9⟩ := blocks_inv h5
    refine ⟨⟨args, b :: g⟩, ?_, ⟨by show args < 5; omega, by simp, ?_, ?_⟩, by rw [g5, g8]; rfl⟩
    · rw [cut_some h1, g1, cut_some h3, g3, g6]; rfl
    · cases g with
      | nil => show 1 ≤ 8; omega
      | cons c g => have := g9 (by simp); show (g.length + 1) + 1 ≤ 8; simp only [List.length_cons] at this; omega
    · intro x hx
      rcases List.mem_cons.1 hx with rfl | hx
      · exact g4
      · exact g7 x hx
end Go.Proofs.YtedkjanogjglkaaDoor.Code
