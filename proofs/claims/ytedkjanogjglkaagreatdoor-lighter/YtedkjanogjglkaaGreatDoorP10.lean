/-
  Parts of the proof: XText, CIr2, CReckon, CVals.
-/
import Derived.Test.YtedkjanogjglkaaGreatDoorP09
import Derived.Test.YtedkjanogjglkaaGreatDoorP07
set_option maxRecDepth 100000
set_option maxHeartbeats 2000000
namespace Go.Proofs.YtedkjanogjglkaaGreatDoor.Code
open Go.Proofs.YtedkjanogjglkaaGreatDoor.Ref (dec ch digits)
def textG : Thing -> List UInt8
 | .phi of => sPhi ++ ofText of
 | .arg n => [97, 114, 103, 32] ++ dec n
 | .const c => [99, 111, 110, 115, 116, 32] ++ digits c
 | .apply k of => nameOf k ++ ofText of
def lineG (v : Val) : List UInt8 := 118 :: (dec v.num ++ ([32, 61, 32] ++ (textG v.thing ++ [10])))
def lastG : Last -> List UInt8
 | .ret v => [114, 101, 116, 32, 118] ++ dec v
 | .jump t => [106, 117, 109, 112, 32, 98] ++ dec t
 | .ifs v x y => [105, 102, 32, 118] ++ (dec v ++ ([32, 98] ++ (dec x ++ ([32, 98] ++ dec y))))
def linesG (l : List Val) : List UInt8 := l.flatMap lineG
def blockG (k : Nat) (b : Blk) : List UInt8 := 98 :: (dec k ++ ([58, 10] ++ (linesG b.values ++ (lastG b.last ++ [10]))))
def blocksG : Nat -> List Blk -> List UInt8
 | _, [] => []
 | k, b :: r => blockG k b ++ blocksG (k + 1) r
def textF (f : Fn) : List UInt8 := sFunc ++ (dec f.args ++ (10 :: blocksG 0 f.blocks))
def WFT (args : Nat) : Thing -> Prop
 | .phi of => ∀ x ∈ of, x < 60
 | .arg n => n < args
 | .const c => -2147483648 <= c /\ c < 2147483648
 | .apply k of => k < 13 /\ of.length = opOf k /\ ∀ x ∈ of, x < 60
def PhisFirst : Bool -> List Val -> Prop
 | _, [] => True
 | b, v :: l => (v.thing.isPhi = true -> b = true) /\ PhisFirst v.thing.isPhi l
def WFL : Last -> Prop
 | .ret v => v < 60
 | .jump t => t < 10 ^ 10
 | .ifs v x y => v < 60 /\ x < 10 ^ 10 /\ y < 10 ^ 10
structure WFB (args : Nat) (b : Blk) : Prop where
 vals : ∀ v ∈ b.values, v.num < 60 /\ WFT args v.thing
 phis : PhisFirst true b.values
 last : WFL b.last
structure WFF (f : Fn) : Prop where
 args : f.args < 5
 some : f.blocks ≠ []
 most : f.blocks.length <= 8
 blocks : ∀ b ∈ f.blocks, WFB f.args b
def clipL : Last -> Last
 | .ret v => .ret v
 | .jump t => .jump (min t 8)
 | .ifs v x y => .ifs v (min x 8) (min y 8)
def clipB (b : Blk) : Blk := ⟨b.values, clipL b.last⟩
def clip (f : Fn) : Fn := ⟨f.args, f.blocks.map clipB⟩
/-! What is written is read as it is. -/
theorem phiOf_text : ∀ (of : List Nat) (r : List UInt8), (∀ x ∈ of, x < 60) -> PhiOf (ofText of ++ 10 :: r) (some (of, 10 :: r))
 | [], r, _ => PhiOf.done (cut_not (by decide))
 | x :: l, r, h => by
  have e : cut [32] (32 :: (118 :: (dec x ++ (ofText l ++ 10 :: r)))) = some (118 :: (dec x ++ (ofText l ++ 10 :: r))) := cut_app [32] _
  have ih := phiOf_text l r (fun y hy => h y (List.mem_cons_of_mem _ hy))
  have e0 : ofText (x :: l) ++ 10 :: r = 32 :: (118 :: (dec x ++ (ofText l ++ 10 :: r))) := by simp [ofText]
  rw [e0]
  exact PhiOf.more e (value_dec x _ (h x List.mem_cons_self) (ofText_stop l r)) ih
theorem thingG_text (args : Nat) (t : Thing) (h : WFT args t) (ha : args <= 60) (r : List UInt8) : ThingOf args (textG t ++ 10 :: r) (some (t, 10 :: r)) := by
 cases t with
 | phi of =>
  have e0 : ∃ c t, ofText of ++ 10 :: r = c :: t /\ isIn 97 122 c = false := by
   cases of with
   | nil => exact ⟨10, r, rfl, rfl⟩
   | cons x l => exact ⟨32, _, rfl, rfl⟩
  obtain ⟨c, t, ht, hc⟩ := e0
  have hw : word (sPhi ++ c :: t) = sPhi /\ behind (sPhi ++ c :: t) = c :: t := by
   constructor
   ·show (112 :: 104 :: 105 :: c :: t).takeWhile (isIn 97 122) = sPhi
    simp [List.takeWhile, hc, show isIn 97 122 112 = true from rfl, show isIn 97 122 104 = true from rfl, show isIn 97 122 105 = true from rfl, sPhi]
   ·show (112 :: 104 :: 105 :: c :: t).dropWhile (isIn 97 122) = c :: t
    simp [List.dropWhile, hc, show isIn 97 122 112 = true from rfl, show isIn 97 122 104 = true from rfl, show isIn 97 122 105 = true from rfl]
  have hp := phiOf_text of r h
  rw [ht] at hp
  have hT := ThingOf.phi (args := args) (s := sPhi ++ c :: t) hw.1 (by rw [hw.2]; exact hp)
  show ThingOf args ((sPhi ++ ofText of) ++ 10 :: r) _
  rw [List.append_assoc, ht]
  exact hT
 | arg n => exact thing_text args (.arg n) h ha r
 | const c => exact thing_text args (.const c) h ha r
 | apply k of => exact thing_text args (.apply k of) h ha r
theorem valuesG_text (args : Nat) (ha : args <= 60) : ∀ (l : List Val) (b : Bool) (r : List UInt8), (∀ v ∈ l, v.num < 60 /\ WFT args v.thing) -> PhisFirst b l -> cut [118] r = none -> ValuesOf args b (linesG l ++ r) (some (l, r))
 | [], b, r, _, _, hr => ValuesOf.done hr
 | v :: l, b, r, h, hp, hr => by
  obtain ⟨hv, hg⟩ := h v List.mem_cons_self
  have ih := valuesG_text args ha l v.thing.isPhi r (fun x hx => h x (List.mem_cons_of_mem _ hx)) hp.2 hr
  have e : linesG (v :: l) ++ r = 118 :: (dec v.num ++ ([32, 61, 32] ++ (textG v.thing ++ 10 :: (linesG l ++ r)))) := by simp [linesG, lineG]
  rw [e]
  have h1 : cut [118] (118 :: (dec v.num ++ ([32, 61, 32] ++ (textG v.thing ++ 10 :: (linesG l ++ r))))) = some _ := cut_app [118] _
  have h2 := value_dec v.num ([32, 61, 32] ++ (textG v.thing ++ 10 :: (linesG l ++ r))) hv (stop32 _)
  have h3 := cut_app [32, 61, 32] (textG v.thing ++ 10 :: (linesG l ++ r))
  have h4 := thingG_text args v.thing hg ha (linesG l ++ r)
  have h5 : cut [10] (10 :: (linesG l ++ r)) = some _ := cut_app [10] _
  exact ValuesOf.more h1 h2 h3 h4 hp.1 h5 ih
theorem target_dec (n : Nat) (r : List UInt8) (h : n < 10 ^ 10) (hr : Stop r) : target (98 :: (dec n ++ r)) = some (min n 8, r) := by
 have e : cut [98] (98 :: (dec n ++ r)) = some (dec n ++ r) := cut_app [98] _
 unfold target
 rw [e, Option.bind_some, number_dec n r h hr]
 rfl
theorem last_text (z : Last) (h : WFL z) (r : List UInt8) : last (lastG z ++ 10 :: r) = some (clipL z, 10 :: r) := by
 cases z with
 | ret v =>
  have e0 : lastG (.ret v) ++ 10 :: r = [114, 101, 116, 32, 118] ++ (dec v ++ 10 :: r) := by simp [lastG]
  rw [e0]
  have e1 : behind ([114, 101, 116, 32, 118] ++ (dec v ++ 10 :: r)) = 32 :: (118 :: (dec v ++ 10 :: r)) := rfl
  have e2 : cut [32] (32 :: (118 :: (dec v ++ 10 :: r))) = some (118 :: (dec v ++ 10 :: r)) := cut_app [32] _
  have ew : word ([114, 101, 116, 32, 118] ++ (dec v ++ 10 :: r)) = sRet := rfl
  unfold last
  rw [if_pos ew, e1, e2, Option.bind_some, value_dec v (10 :: r) h (stop10 r)]
  rfl
 | jump t =>
  have e0 : lastG (.jump t) ++ 10 :: r = [106, 117, 109, 112, 32, 98] ++ (dec t ++ 10 :: r) := by simp [lastG]
  rw [e0]
  have e1 : behind ([106, 117, 109, 112, 32, 98] ++ (dec t ++ 10 :: r)) = 32 :: (98 :: (dec t ++ 10 :: r)) := rfl
  have e2 : cut [32] (32 :: (98 :: (dec t ++ 10 :: r))) = some (98 :: (dec t ++ 10 :: r)) := cut_app [32] _
  have ew : word ([106, 117, 109, 112, 32, 98] ++ (dec t ++ 10 :: r)) = sJump := rfl
  unfold last
  rw [ew, if_neg (by decide), if_pos (rfl : sJump = sJump), e1, e2, Option.bind_some, target_dec t (10 :: r) h (stop10 r)]
  rfl
 | ifs v x y =>
  have e0 : lastG (.ifs v x y) ++ 10 :: r = [105, 102, 32, 118] ++ (dec v ++ (32 :: 98 :: (dec x ++ (32 :: 98 :: (dec y ++ 10 :: r))))) := by simp [lastG]
  rw [e0]
  have ew : word ([105, 102, 32, 118] ++ (dec v ++ (32 :: 98 :: (dec x ++ (32 :: 98 :: (dec y ++ 10 :: r)))))) = sIf := rfl
  have e1 : behind ([105, 102, 32, 118] ++ (dec v ++ (32 :: 98 :: (dec x ++ (32 :: 98 :: (dec y ++ 10 :: r)))))) = 32 :: (118 :: (dec v ++ (32 :: 98 :: (dec x ++ (32 :: 98 :: (dec y ++ 10 :: r)))))) := rfl
  have c1 : cut [32] (32 :: (118 :: (dec v ++ (32 :: 98 :: (dec x ++ (32 :: 98 :: (dec y ++ 10 :: r))))))) = some _ := cut_app [32] _
  have c2 : cut [32] (32 :: 98 :: (dec x ++ (32 :: 98 :: (dec y ++ 10 :: r)))) = some _ := cut_app [32] _
  have c3 : cut [32] (32 :: 98 :: (dec y ++ 10 :: r)) = some _ := cut_app [32] _
  unfold last
  rw [ew, if_neg (by decide), if_neg (by decide), if_pos (rfl : sIf = sIf), e1]
  unfold ifLast
  rw [c1, Option.bind_some, value_dec v _ h.1 (stop32 _), Option.bind_some, c2, Option.bind_some, target_dec x _ h.2.1 (stop32 _), Option.bind_some, c3, Option.bind_some, target_dec y _ h.2.2 (stop10 r)]
  rfl
theorem last_noV (z : Last) (r : List UInt8) : cut [118] (lastG z ++ r) = none := by
 cases z with
 | ret v => exact cut_not (by decide)
 | jump t => exact cut_not (by decide)
 | ifs v x y => exact cut_not (by decide)
theorem blockG_text (args : Nat) (ha : args <= 60) (k : Nat) (hk : k < 8) (b : Blk) (h : WFB args b) (r : List UInt8) : BlockIs args k (blockG k b ++ r) (clipB b) r := by
 have e : blockG k b ++ r = 98 :: (dec k ++ ([58, 10] ++ (linesG b.values ++ (lastG b.last ++ 10 :: r)))) := by simp [blockG]
 rw [e]
 refine BlockIs.mk (r1 := dec k ++ ([58, 10] ++ (linesG b.values ++ (lastG b.last ++ 10 :: r)))) (r2 := [58, 10] ++ (linesG b.values ++ (lastG b.last ++ 10 :: r))) (cut_app [98] _) ?_ (cut_app [58] _) (cut_app [10] _)
  (valuesG_text args ha b.values true (lastG b.last ++ 10 :: r) h.vals h.phis (last_noV _ _)) (last_text _ h.last r) (cut_app [10] r)
 unfold below
 rw [number_dec k ([58, 10] ++ (linesG b.values ++ (lastG b.last ++ 10 :: r))) (by omega) (stop_cons rfl), Option.bind_some, if_pos (by show (k : Int) < 8; omega)]
theorem blocksG_text (args : Nat) (ha : args <= 60) : ∀ (l : List Blk) (k : Nat), k + l.length <= 8 -> (∀ b ∈ l, WFB args b) -> BlocksIs args k (blocksG k l) (l.map clipB)
 | [], k, _, _ => BlocksIs.nil
 | b :: l, k, hk, h => by
  simp only [List.length_cons] at hk
  exact BlocksIs.cons (by simp [blocksG, blockG]) (blockG_text args ha k (by omega) b (h b List.mem_cons_self) _) (blocksG_text args ha l (k + 1) (by omega) (fun x hx => h x (List.mem_cons_of_mem _ hx)))
theorem textF_is (g : Fn) (h : WFF g) : FnIs (textF g) (clip g) := by
 obtain ⟨args, bks⟩ := g
 cases bks with
 | nil => exact absurd rfl h.some
 | cons b l =>
  have ha := h.args
  have hm := h.most
  simp only [List.length_cons] at ha hm
  refine FnIs.mk (r1 := dec args ++ (10 :: blocksG 0 (b :: l))) (r2 := 10 :: blocksG 0 (b :: l)) (r3 := blocksG 0 (b :: l)) (r4 := blocksG 1 l) (cut_app sFunc _) ?_ (cut_app [10] _) (blockG_text args (by omega) 0 (by omega) b (h.blocks b List.mem_cons_self) _) (blocksG_text args (by omega) l 1 (by omega) (fun x hx => h.blocks x (List.mem_cons_of_mem _ hx)))
  unfold below
  rw [number_dec args _ (by omega) (stop10 _), Option.bind_some, if_pos (by show (args : Int) < 5; omega)]
/-! What is read was written so. -/
theorem toNat_inj {a b : UInt8} (h : a.toNat = b.toNat) : a = b := UInt8.toNat.inj h
theorem dec_of : ∀ (n : Nat) (d : List UInt8), d.length = n -> d ≠ [] -> (∀ c ∈ d, isIn 48 57 c = true) -> (d.head? = some 48 -> d = [48]) -> dec (numFold 0 d) = d
 | 0, d, hl, hne, _, _ => by simp at hl; exact absurd hl hne
 | n + 1, d, hl, hne, hin, hh => by
  obtain ⟨e, c, rfl⟩ : ∃ e c, d = e ++ [c] := ⟨d.dropLast, d.getLast hne, (List.dropLast_concat_getLast hne).symm⟩
  have hc := hin c (by simp)
  simp only [isIn, Bool.and_eq_true, decide_eq_true_eq] at hc
  have hc1 : 48 <= c.toNat := hc.1
  have hc2 : c.toNat <= 57 := hc.2
  have hch : ch (c.toNat - 48) = c := by
   apply toNat_inj
   rw [ch_toNat _ (by omega)]; omega
  rw [numFold_snoc]
  cases e with
  | nil =>
   show dec (10 * 0 + (c.toNat - 48)) = [c]
   have e1 : (10 * 0 + (c.toNat - 48)) % 10 = c.toNat - 48 := by omega
   rw [Ref.dec_small (by omega), e1, hch]
  | cons a t =>
   have ih := dec_of n (a :: t) (by simp at hl ⊢; omega) (by simp) (fun x hx => hin x (List.mem_append_left _ hx)) (fun h => by
    have := hh (by simpa using h)
    simp at this)
   have ha : a ≠ 48 := by
    rintro rfl
    have := hh rfl
    simp at this
   have hpos : 0 < numFold 0 (a :: t) := by
    rcases Nat.eq_zero_or_pos (numFold 0 (a :: t)) with h0 | h0
    ·rw [h0] at ih
     have hz : dec 0 = [48] := rfl
     rw [hz] at ih
     injection ih with i1 i2
     exact absurd i1.symm ha
    ·exact h0
   have e1 : (10 * numFold 0 (a :: t) + (c.toNat - 48)) / 10 = numFold 0 (a :: t) := by omega
   have e2 : (10 * numFold 0 (a :: t) + (c.toNat - 48)) % 10 = c.toNat - 48 := by omega
   rw [Ref.dec_big (by omega), e1, e2, ih, hch]
theorem fold_lt (d : List UInt8) (h : ∀ c ∈ d, isIn 48 57 c = true) : numFold 0 d < 10 ^ d.length := by
 have : ∀ (l : List UInt8), (∀ c ∈ l, isIn 48 57 c = true) -> ∀ n k, n < 10 ^ k -> numFold n l < 10 ^ (k + l.length) := by
  intro l
  induction l with
  | nil => intro _ n k hn; exact hn
  | cons c l ih =>
   intro hin n k hn
   have hc := hin c List.mem_cons_self
   simp only [isIn, Bool.and_eq_true, decide_eq_true_eq] at hc
   have hc1 : 48 <= c.toNat := hc.1
   have hc2 : c.toNat <= 57 := hc.2
   have := ih (fun x hx => hin x (List.mem_cons_of_mem _ hx)) (10 * n + (c.toNat - 48)) (k + 1) (by rw [Nat.pow_succ]; omega)
   show numFold (10 * n + (c.toNat - 48)) l < _
   have e : k + (c :: l).length = k + 1 + l.length := by simp; omega
   rw [e]; exact this
 have := this d h 0 0 (by simp)
 simpa using this
theorem number_inv {s t : List UInt8} {n : Nat} (h : number s = some (n, t)) : s = dec n ++ t /\ n < 10 ^ 10 := by
 unfold number at h
 split at h
 ·cases h
 ·rename_i hb
  simp only [Option.some.injEq, Prod.mk.injEq] at h
  obtain ⟨rfl, rfl⟩ := h
  have hin : ∀ c ∈ run 48 57 s, isIn 48 57 c = true := by
   intro c hc
   have : ∀ (l : List UInt8), ∀ c ∈ l.takeWhile (isIn 48 57), isIn 48 57 c = true := by
    intro l
    induction l with
    | nil => intro c hc; simp at hc
    | cons a l ih =>
     intro c hc
     by_cases ha : isIn 48 57 a = true
     ·rw [List.takeWhile_cons_of_pos ha] at hc
      rcases List.mem_cons.1 hc with rfl | hc
      ·exact ha
      ·exact ih c hc
     ·rw [List.takeWhile_cons_of_neg ha] at hc; simp at hc
   exact this s c hc
  have h1 : run 48 57 s ≠ [] := fun h => hb (Or.inl h)
  have h2 : ¬ 10 < (run 48 57 s).length := fun h => hb (Or.inr (Or.inl h))
  have h3 : (run 48 57 s).head? = some 48 -> run 48 57 s = [48] := fun h => Decidable.byContradiction fun h' => hb (Or.inr (Or.inr ⟨h, h'⟩))
  constructor
  ·rw [dec_of _ _ rfl h1 hin h3]; exact (run_rest 48 57 s).symm
  ·have := fold_lt _ hin
   have : 10 ^ (run 48 57 s).length <= 10 ^ 10 := Nat.pow_le_pow_right (by omega) (by omega)
   omega
theorem below_inv {lim : Int} {s t : List UInt8} {n : Nat} (h : below lim s = some (n, t)) : s = dec n ++ t /\ (n : Int) < lim /\ n < 10 ^ 10 := by
 unfold below at h
 cases hn : number s with
 | none => rw [hn] at h; cases h
 | some p =>
  obtain ⟨m, u⟩ := p
  rw [hn, Option.bind_some] at h
  split at h
  ·cases h
   exact ⟨(number_inv hn).1, by assumption, (number_inv hn).2⟩
  ·cases h
theorem value_inv {s t : List UInt8} {n : Nat} (h : value s = some (n, t)) : s = 118 :: (dec n ++ t) /\ n < 60 := by
 unfold value at h
 cases hc : cut [118] s with
 | none => rw [hc] at h; cases h
 | some r =>
  rw [hc, Option.bind_some] at h
  obtain ⟨h1, h2, _⟩ := below_inv h
  exact ⟨by rw [cut_some hc, h1]; rfl, by omega⟩
theorem target_inv {s t : List UInt8} {n : Nat} (h : target s = some (n, t)) : ∃ m, s = 98 :: (dec m ++ t) /\ m < 10 ^ 10 /\ n = min m 8 := by
 unfold target at h
 cases hc : cut [98] s with
 | none => rw [hc] at h; cases h
 | some r =>
  rw [hc, Option.bind_some] at h
  cases hn : number r with
  | none => rw [hn] at h; cases h
  | some p =>
   obtain ⟨m, u⟩ := p
   rw [hn] at h
   simp only [Option.map_some, Option.some.injEq, Prod.mk.injEq] at h
   obtain ⟨rfl, rfl⟩ := h
   exact ⟨m, by rw [cut_some hc, (number_inv hn).1]; rfl, (number_inv hn).2, rfl⟩
theorem signed_inv {s t : List UInt8} {n : Int} (h : signed s = some (n, t)) : s = digits n ++ t /\ -2147483648 <= n /\ n < 2147483648 := by
 unfold signed at h
 split at h
 ·rename_i r hc
  cases hn : number r with
  | none => rw [hn] at h; cases h
  | some p =>
   obtain ⟨m, u⟩ := p
   rw [hn, Option.bind_some] at h
   unfold signedOf at h
   split at h
   ·cases h
   ·rename_i h0
    simp only [if_true] at h
    split at h
    ·cases h
    ·rename_i hr
     simp only [Option.some.injEq, Prod.mk.injEq] at h
     obtain ⟨rfl, rfl⟩ := h
     have hm : m ≠ 0 := fun h => h0 ⟨rfl, h⟩
     refine ⟨?_, by omega, by omega⟩
     unfold digits
     rw [if_pos (by omega), cut_some hc, (number_inv hn).1]
     have e : (- -(m : Int)).toNat = m := by omega
     rw [e]; rfl
 ·rename_i hc
  cases hn : number s with
  | none => rw [hn] at h; cases h
  | some p =>
   obtain ⟨m, u⟩ := p
   rw [hn, Option.bind_some] at h
   unfold signedOf at h
   split at h
   ·cases h
   ·simp only [Bool.false_eq_true, if_false] at h
    split at h
    ·cases h
    ·rename_i hr
     simp only [Option.some.injEq, Prod.mk.injEq] at h
     obtain ⟨rfl, rfl⟩ := h
     refine ⟨?_, by omega, by omega⟩
     unfold digits
     rw [if_neg (by omega), (number_inv hn).1]
     have e : ((m : Int)).toNat = m := by omega
     rw [e]
theorem phiOf_inv {s : List UInt8} {o : Option (List Nat × List UInt8)} (h : PhiOf s o) : ∀ of t, o = some (of, t) -> s = ofText of ++ t /\ ∀ x ∈ of, x < 60 := by
 induction h with
 | done hc =>
  intro of t ho
  simp only [Option.some.injEq, Prod.mk.injEq] at ho
  obtain ⟨rfl, rfl⟩ := ho
  exact ⟨rfl, by simp⟩
 | bad => intro of t ho; cases ho
 | @more s r t v o hc hv _ ih =>
  intro of t' ho
  cases o with
  | none => cases ho
  | some q =>
   simp only [Option.map_some, Option.some.injEq, Prod.mk.injEq] at ho
   obtain ⟨rfl, rfl⟩ := ho
   obtain ⟨h1, h2⟩ := ih q.1 q.2 rfl
   obtain ⟨h3, h4⟩ := value_inv hv
   refine ⟨?_, fun x hx => ?_⟩
   ·rw [cut_some hc, h3, h1]; simp [ofText]
   ·rcases List.mem_cons.1 hx with rfl | hx
    ·exact h4
    ·exact h2 x hx
theorem ofN_inv : ∀ (n : Nat) {s t : List UInt8} {of : List Nat}, ofN n s = some (of, t) -> s = ofText of ++ t /\ of.length = n /\ ∀ x ∈ of, x < 60
 | 0, s, t, of, h => by
  simp only [ofN, Option.some.injEq, Prod.mk.injEq] at h
  obtain ⟨rfl, rfl⟩ := h
  exact ⟨rfl, rfl, by simp⟩
 | n + 1, s, t, of, h => by
  unfold ofN at h
  cases hc : cut [32] s with
  | none => rw [hc] at h; cases h
  | some r =>
   rw [hc, Option.bind_some] at h
   cases hv : value r with
   | none => rw [hv] at h; cases h
   | some p =>
    rw [hv, Option.bind_some] at h
    cases hq : ofN n p.2 with
    | none => rw [hq] at h; cases h
    | some q =>
     rw [hq] at h
     simp only [Option.map_some, Option.some.injEq, Prod.mk.injEq] at h
     obtain ⟨rfl, rfl⟩ := h
     obtain ⟨h1, h2, h3⟩ := ofN_inv n hq
     obtain ⟨h4, h5⟩ := value_inv hv
     refine ⟨?_, by simp [h2], fun x hx => ?_⟩
     ·rw [cut_some hc, h4, h1]; simp [ofText]
     ·rcases List.mem_cons.1 hx with rfl | hx
      ·exact h5
      ·exact h3 x hx
theorem opNamed_inv {w : List UInt8} {k : Nat} (h : opNamed w = some k) : k < 13 /\ nameOf k = w := by
 unfold opNamed at h
 rw [List.findIdx?_eq_some_iff_getElem] at h
 obtain ⟨hk, he, _⟩ := h
 simp only [List.length_map] at hk
 have hk' : k < ops.length := hk
 refine ⟨hk', ?_⟩
 simp only [List.getElem_map, decide_eq_true_eq] at he
 unfold nameOf
 rw [List.getD_eq_getElem?_getD, List.getElem?_eq_getElem hk', Option.getD_some]
 exact he
theorem word_behind (s : List UInt8) : s = word s ++ behind s := (run_rest 97 122 s).symm
theorem thing_inv {a : Nat} {s t : List UInt8} {y : Thing} (h : ThingOf a s (some (y, t))) : s = textG y ++ t /\ WFT a y := by
 generalize ho : some (y, t) = o at h
 cases h with
 | @phi o' hw hp =>
  cases o' with
  | none => cases ho
  | some q =>
   simp only [Option.map_some, Option.some.injEq, Prod.mk.injEq] at ho
   obtain ⟨rfl, rfl⟩ := ho
   obtain ⟨h1, h2⟩ := phiOf_inv hp q.1 q.2 rfl
   refine ⟨?_, h2⟩
   rw [word_behind s, hw, h1]; simp [textG]
 | arg hw =>
  cases hc : cut [32] (behind s) with
  | none => rw [hc] at ho; cases ho
  | some r =>
   rw [hc, Option.bind_some] at ho
   cases hb : below a r with
   | none => rw [hb] at ho; cases ho
   | some p =>
    rw [hb] at ho
    simp only [Option.map_some, Option.some.injEq, Prod.mk.injEq] at ho
    obtain ⟨rfl, rfl⟩ := ho
    obtain ⟨h1, h2, _⟩ := below_inv hb
    refine ⟨?_, ?_⟩
    ·rw [word_behind s, hw, cut_some hc, h1]; simp [textG, sArg]
    ·show p.1 < a; omega
 | const hw =>
  cases hc : cut [32] (behind s) with
  | none => rw [hc] at ho; cases ho
  | some r =>
   rw [hc, Option.bind_some] at ho
   cases hb : signed r with
   | none => rw [hb] at ho; cases ho
   | some p =>
    rw [hb] at ho
    simp only [Option.map_some, Option.some.injEq, Prod.mk.injEq] at ho
    obtain ⟨rfl, rfl⟩ := ho
    obtain ⟨h1, h2⟩ := signed_inv hb
    refine ⟨?_, h2⟩
    rw [word_behind s, hw, cut_some hc, h1]; simp [textG, sConst]
 | apply h1 h2 h3 =>
  unfold apply at ho
  cases hk : opNamed (word s) with
  | none => rw [hk] at ho; cases ho
  | some k =>
   rw [hk, Option.bind_some] at ho
   cases hb : ofN (opOf k) (behind s) with
   | none => rw [hb] at ho; cases ho
   | some p =>
    rw [hb] at ho
    simp only [Option.map_some, Option.some.injEq, Prod.mk.injEq] at ho
    obtain ⟨rfl, rfl⟩ := ho
    obtain ⟨g1, g2⟩ := opNamed_inv hk
    obtain ⟨g3, g4, g5⟩ := ofN_inv _ hb
    refine ⟨?_, g1, g4, g5⟩
    show s = (nameOf k ++ ofText p.1) ++ p.2
    rw [g2, List.append_assoc, <- g3]
    exact word_behind s
theorem values_inv {a : Nat} {b : Bool} {s : List UInt8} {o : Option (List Val × List UInt8)} (h : ValuesOf a b s o) :
  ∀ l t, o = some (l, t) -> s = linesG l ++ t /\ (∀ v ∈ l, v.num < 60 /\ WFT a v.thing) /\ PhisFirst b l := by
 induction h with
 | done hc =>
  intro l t ho
  simp only [Option.some.injEq, Prod.mk.injEq] at ho
  obtain ⟨rfl, rfl⟩ := ho
  exact ⟨rfl, by simp, trivial⟩
 | badV | badEq | badThing | badPhi | badEnd => intro l t ho; cases ho
 | @more b s r t u x z v y o _ hv hu hy hp hz _ ih =>
  intro l t' ho
  cases o with
  | none => cases ho
  | some q =>
   simp only [Option.map_some, Option.some.injEq, Prod.mk.injEq] at ho
   obtain ⟨rfl, rfl⟩ := ho
   obtain ⟨h1, h2, h3⟩ := ih q.1 q.2 rfl
   obtain ⟨h4, h5⟩ := value_inv hv
   obtain ⟨h6, h7⟩ := thing_inv hy
   refine ⟨?_, fun x hx => ?_, hp, h3⟩
   ·rw [h4, cut_some hu, h6, cut_some hz, h1]; simp [linesG, lineG]
   ·rcases List.mem_cons.1 hx with rfl | hx
    ·exact ⟨h5, h7⟩
    ·exact h2 x hx
theorem last_inv {s t : List UInt8} {z : Last} (h : last s = some (z, t)) : ∃ z', s = lastG z' ++ t /\ WFL z' /\ z = clipL z' := by
 unfold last at h
 split at h
 ·rename_i hw
  cases hc : cut [32] (behind s) with
  | none => rw [hc] at h; cases h
  | some r =>
   rw [hc, Option.bind_some] at h
   cases hv : value r with
   | none => rw [hv] at h; cases h
   | some p =>
    rw [hv] at h
    simp only [Option.map_some, Option.some.injEq, Prod.mk.injEq] at h
    obtain ⟨rfl, rfl⟩ := h
    obtain ⟨h1, h2⟩ := value_inv hv
    exact ⟨.ret p.1, by rw [word_behind s, hw, cut_some hc, h1]; simp [lastG, sRet], h2, rfl⟩
 ·split at h
  ·rename_i hw
   cases hc : cut [32] (behind s) with
   | none => rw [hc] at h; cases h
   | some r =>
    rw [hc, Option.bind_some] at h
    cases hv : target r with
    | none => rw [hv] at h; cases h
    | some p =>
     rw [hv] at h
     simp only [Option.map_some, Option.some.injEq, Prod.mk.injEq] at h
     obtain ⟨rfl, rfl⟩ := h
     obtain ⟨m, h1, h2, h3⟩ := target_inv hv
     exact ⟨.jump m, by rw [word_behind s, hw, cut_some hc, h1]; simp [lastG, sJump], h2, by rw [h3]; rfl⟩
  ·split at h
   ·rename_i hw
    unfold ifLast at h
    cases hc : cut [32] (behind s) with
    | none => rw [hc] at h; cases h
    | some r =>
     rw [hc, Option.bind_some] at h
     cases hv : value r with
     | none => rw [hv] at h; cases h
     | some p =>
      rw [hv, Option.bind_some] at h
      cases hc2 : cut [32] p.2 with
      | none => rw [hc2] at h; cases h
      | some r2 =>
       rw [hc2, Option.bind_some] at h
       cases hq : target r2 with
       | none => rw [hq] at h; cases h
       | some q =>
        rw [hq, Option.bind_some] at h
        cases hc3 : cut [32] q.2 with
        | none => rw [hc3] at h; cases h
        | some r3 =>
         rw [hc3, Option.bind_some] at h
         cases hz : target r3 with
         | none => rw [hz] at h; cases h
         | some u =>
          rw [hz] at h
          simp only [Option.map_some, Option.some.injEq, Prod.mk.injEq] at h
          obtain ⟨rfl, rfl⟩ := h
          obtain ⟨h1, h2⟩ := value_inv hv
          obtain ⟨m, h3, h4, h5⟩ := target_inv hq
          obtain ⟨m', h6, h7, h8⟩ := target_inv hz
          refine ⟨.ifs p.1 m m', ?_, ⟨h2, h4, h7⟩, by rw [h5, h8]; rfl⟩
          rw [word_behind s, hw, cut_some hc, h1, cut_some hc2, h3, cut_some hc3, h6]; simp [lastG, sIf]
   ·cases h
theorem block_inv {a k : Nat} {s t : List UInt8} {b : Blk} (h : BlockIs a k s b t) : ∃ g, s = blockG k g ++ t /\ WFB a g /\ b = clipB g /\ k < 8 := by
 cases h with
 | @mk r1 r2 r3 r4 r5 r6 r7 vals z h1 h2 h3 h4 h5 h6 h7 =>
  obtain ⟨g1, g2, _⟩ := below_inv h2
  obtain ⟨g3, g4, g5⟩ := values_inv h5 _ _ rfl
  obtain ⟨z', g6, g7, rfl⟩ := last_inv h6
  refine ⟨⟨vals, z'⟩, ?_, ⟨g4, g5, g7⟩, rfl, by omega⟩
  rw [cut_some h1, g1, cut_some h3, cut_some h4, g3, g6, cut_some h7]; simp [blockG]
theorem blocks_inv {a k : Nat} {s : List UInt8} {l : List Blk} (h : BlocksIs a k s l) : ∃ g, s = blocksG k g /\ (∀ b ∈ g, WFB a b) /\ l = g.map clipB /\ (g ≠ [] -> k + g.length <= 8) := by
 induction h with
 | nil => exact ⟨[], rfl, by simp, rfl, by simp⟩
 | cons _ hb _ ih =>
  obtain ⟨b, h1, h2, h3, h4⟩ := block_inv hb
  obtain ⟨g, h5, h6, h7, h8⟩ := ih
  refine ⟨b :: g, by rw [h1, h5]; rfl, fun x hx => ?_, by rw [h3, h7]; rfl, fun _ => ?_⟩
  ·rcases List.mem_cons.1 hx with rfl | hx
   ·exact h2
   ·exact h6 x hx
  ·cases g with
   | nil => simp; omega
   | cons c g => have := h8 (by simp); simp only [List.length_cons] at this ⊢; omega
theorem fnIs_inv {s : List UInt8} {f : Fn} (h : FnIs s f) : ∃ g, s = textF g /\ WFF g /\ f = clip g := by
 cases h with
 | @mk r1 r2 r3 r4 args b0 bs0 h1 h2 h3 h4 h5 =>
  obtain ⟨g1, g2, _⟩ := below_inv h2
  obtain ⟨b, g3, g4, g5, _⟩ := block_inv h4
  obtain ⟨g, g6, g7, g8, g9⟩ := blocks_inv h5
  refine ⟨⟨args, b :: g⟩, ?_, ⟨by show args < 5; omega, by simp, ?_, ?_⟩, by rw [g5, g8]; rfl⟩
  ·rw [cut_some h1, g1, cut_some h3, g3, g6]; rfl
  ·cases g with
   | nil => show 1 <= 8; omega
   | cons c g => have := g9 (by simp); show (g.length + 1) + 1 <= 8; simp only [List.length_cons] at this; omega
  ·intro x hx
   rcases List.mem_cons.1 hx with rfl | hx
   ·exact g4
   ·exact g7 x hx
end Go.Proofs.YtedkjanogjglkaaGreatDoor.Code
namespace Go.Proofs.YtedkjanogjglkaaGreatDoor
open Go.RowKit
theorem faultOf_any (why l : Int) (w : World) :
  Calls Tryz.prog 57 #[.iface 61 (.agg #[.int .i64 why, .int .i64 l])] w fun e w' => e = .returned (.agg #[.int .i64 why, .int .i64 l]) /\ Below w.heap.size w w' := by
 have hta : ∀ (v : Value) (w : World), (Instr.typeAssert (.iface 61 v) 20 61 true).run Tryz.prog w = .ok (.tuple #[v, .bool true]) w := fun v w => by kernel_rfl
 go_enter Tryz.func57, Tryz.ntmps57
 go_wp2
 refine bodyPost_ret (v := .agg #[.int .i64 why, .int .i64 l]) (by simp [results, Tryz.results57, go_sem]) rfl ?_
 exact ⟨rfl, below_al (below_al (Below.refl _ _) _) _⟩
theorem someNe (v : Value) (w : World) : (binOp .neq 20 (.iface 61 v) .nilIface).run Tryz.prog w = .ok (.bool true) w := by kernel_rfl
theorem catch_fault (b : Nat) (x why l : Int) (w : World) (hc : w.cell? ⟨b, 0, none⟩ = some (.int .i64 x)) (hz : w.frozen? ⟨b, 0, none⟩ = false) (hb : b < w.heap.size) :
  CallsD Tryz.prog 84 #[.pointer (some ⟨b, 0, none⟩)] (.panicking [{ v := .iface 61 (.agg #[.int .i64 why, .int .i64 l]), recovered := false }]) w fun e u' w' =>
   e = .returned (.tuple #[]) /\ u' = .panicking [{ v := .iface 61 (.agg #[.int .i64 why, .int .i64 l]), recovered := true }] /\ ∃ w1, Below w.heap.size w w1 /\ w' = w1.setCell ⟨b, 0, none⟩ (.int .i64 why) := by
 refine callsD_of_wpS Tryz.func84 rfl fun c₀ cs hu => ?_
 apply wpS_seq
 apply wpS_region
 simp [wpOpsS, go_sem, recoverD, hu, Tryz.ntmps84, Exit.thenS]
 apply wpS_seq
 apply wpS_region
 simp [wpOpsS, go_sem, someNe, Exit.thenS]
 refine wpS_cond (t := true) (by simp [Act.eval, Array.replicate]) ?_
 simp only [if_true]
 refine wpS_of_wp ?_
 have ht : (#[Value.pointer (some ⟨b, 0, none⟩)] ++
     ((((Array.replicate 7 undef).setIfInBounds 1
            (Value.iface 61
             (Value.agg #[Value.int IntKind.i64 why, Value.int IntKind.i64 l]))).setIfInBounds
          0 (Value.iface 61 (Value.agg #[Value.int IntKind.i64 why, Value.int IntKind.i64 l]))).setIfInBounds
        2 (Value.iface 61 (Value.agg #[Value.int IntKind.i64 why, Value.int IntKind.i64 l]))).setIfInBounds
      3 (Value.bool true)) = #[.pointer (some ⟨b, 0, none⟩), .iface 61 (.agg #[.int .i64 why, .int .i64 l]), .iface 61 (.agg #[.int .i64 why, .int .i64 l]), .iface 61 (.agg #[.int .i64 why, .int .i64 l]), .bool true, undef, undef, undef] := by rfl
 rw [ht]
 go_wp2_with fail
 refine (faultOf_any why l w).mono ?_
 rintro e w1 ⟨rfl, hb1⟩
 have c1 := bcell' hb1 b 0 hb _ hc
 have z1 : w1.frozen? ⟨b, 0, none⟩ = false := ((bcell hb1).2 b 0 hb).trans hz
 have hfl : ∀ (w : World), (Instr.field 61 (.agg #[.int .i64 why, .int .i64 l]) 0).run Tryz.prog w = .ok (.int .i64 why) w := fun w => by kernel_rfl
 go_wp2
 simp [bodyPostS, results, Tryz.results84]
 exact ⟨w1, hb1, rfl⟩
theorem irRead_fail (s : ByteArray) (why : Int) (w : World) (hf : ∀ w', Below w.heap.size w w' -> Calls Tryz.prog 37 #[.string s] w' fun e w'' => FailsW w' why e w'') :
  Calls Tryz.prog 40 #[.string s] w fun e w' =>
   e = .returned (.tuple #[.agg #[.int .i64 0, .slice none 0 0], .int .i64 why]) /\ Below w.heap.size w w' := by
 have hmf : ∀ (fn : Fn) (first cap : Array Value) (w : World), (Instr.makeFunc fn first cap).run Tryz.prog w = .ok (.func fn first cap) w := fun _ _ _ _ => rfl
 have HF := hide hf
 clear hf
 go_enter_defers Tryz.func40, Tryz.ntmps40
 go_wp2_with fail
 generalize hw0 : (w.alloc _).alloc _ = w0
 have hx0 : w0.heap[w.heap.size]? = some (.cells #[.int .i64 0, .slice none 0 0] 78) := by rw [<- hw0]; exact stay_alloc (heap_alloc_new w _)
 have hy0 : w0.heap[w.heap.size + 1]? = some (.cells #[.int .i64 0] 23) := by
  have h := heap_alloc_new (w.alloc (.cells #[.int .i64 0, .slice none 0 0] 78)) (.cells #[.int .i64 0] 23)
  rw [alloc_size] at h
  rw [<- hw0]; exact h
 have hb0 : Below w.heap.size w w0 := by rw [<- hw0]; exact below_al (below_al (Below.refl _ _) _) _
 clear hw0
 refine (HF.out w0 hb0).mono ?_
 rintro e w1 ⟨⟨l, rfl⟩, hb1⟩
 have hx1 := (hb1.block _ (lt_of_block hx0)).trans hx0
 have hy1 := (hb1.block _ (lt_of_block hy0)).trans hy0
 have hbw1 : Below w.heap.size w w1 := hb0.trans (hb1.mono hb0.size)
 clear hx0 hy0 hb0 hb1
 go_wp2
 refine leaves_cons (f := 84) (args := #[.pointer (some ⟨w.heap.size + 1, 0, none⟩)]) (by simp) (by simp [go_sem]) ?_
 refine (catch_fault (w.heap.size + 1) 0 why l w1 (blk_cell hy1 0 _ rfl) (blk_froz hy1 0) (lt_of_block hy1)).mono ?_
 rintro e u' w'' ⟨rfl, rfl, w2, hb2, rfl⟩
 have hx2 := (hb2.block _ (lt_of_block hx1)).trans hx1
 have hy2 := (hb2.block _ (lt_of_block hy1)).trans hy1
 have hbw2 : Below w.heap.size w w2 := hbw1.trans (hb2.mono hbw1.size)
 have d0 := blk_cell (stay_set (a := ⟨w.heap.size + 1, 0, none⟩) (v := .int .i64 why) hx2 (by simp)) 0 _ rfl
 have d1 := blk_cell (stay_set (a := ⟨w.heap.size + 1, 0, none⟩) (v := .int .i64 why) hx2 (by simp)) 1 _ rfl
 have e0 : (w2.setCell ⟨w.heap.size + 1, 0, none⟩ (.int .i64 why)).cell? ⟨w.heap.size + 1, 0, none⟩ = some (.int .i64 why) := blk_cell (set_block hy2) 0 _ rfl
 simp [Leaves, settle, results, Tryz.results40, go_sem, d0, d1, e0]
 exact below_set hbw2 (Nat.le_succ _) _ _
namespace Code
theorem linesG_len (l : List Val) : l.length <= (linesG l).length := by
 induction l with
 | nil => simp
 | cons v l ih =>
  have : (linesG (v :: l)).length = (lineG v).length + (linesG l).length := by simp [linesG]
  rw [this]
  have : 0 < (lineG v).length := by simp [lineG]
  simp only [List.length_cons]; omega
theorem blocksG_len : ∀ (l : List Blk) (k : Nat), ∀ b ∈ l, b.values.length <= (blocksG k l).length
 | [], _, b, hb => by simp at hb
 | a :: l, k, b, hb => by
  have e : (blocksG k (a :: l)).length = (blockG k a).length + (blocksG (k + 1) l).length := by simp [blocksG]
  rw [e]
  rcases List.mem_cons.1 hb with rfl | hb
  ·have := linesG_len b.values
   have : (linesG b.values).length <= (blockG k b).length := by simp [blockG]; omega
   omega
  ·have := blocksG_len l (k + 1) b hb
   omega
theorem wf_of {g : Fn} (h : WFF g) (hs : (textF g).length <= 1500) : Wf (clip g).blocks := by
 have hb : ∀ b ∈ (clip g).blocks, ∃ b0 ∈ g.blocks, b = clipB b0 := fun b hb => by
  obtain ⟨b0, h1, h2⟩ := List.mem_map.1 hb
  exact ⟨b0, h1, h2.symm⟩
 refine ⟨by simpa [clip] using h.most, ?_, ?_, ?_⟩
 ·have := h.some
  show 0 < (g.blocks.map clipB).length
  rw [List.length_map]
  exact List.length_pos_iff.2 this
 ·intro b hb'
  obtain ⟨b0, hb0, rfl⟩ := hb b hb'
  have hl := blocksG_len g.blocks 0 b0 hb0
  have : (blocksG 0 g.blocks).length <= (textF g).length := by simp [textF]; omega
  refine ⟨by show b0.values.length <= 100000; omega, fun v hv => ?_, ?_, ?_⟩
  ·obtain ⟨h1, h2⟩ := (h.blocks b0 hb0).vals v hv
   refine ⟨h1, ?_⟩
   obtain ⟨num, thing⟩ := v
   cases thing with
   | phi of => exact ⟨by simp [useT], by simp [useT]⟩
   | arg n => exact ⟨by simp [useT], by simp [useT]⟩
   | const c => exact ⟨by simp [useT], by simp [useT]⟩
   | apply k of =>
    obtain ⟨g1, g2, g3⟩ := h2
    have := opOf_range k g1
    exact ⟨by simp only [useT]; omega, g3⟩
  ·show (useL (clipL b0.last)).length <= 100000
   cases b0.last <;> simp [clipL, useL]
  ·show ∀ x ∈ useL (clipL b0.last), x < 60
   have hL := (h.blocks b0 hb0).last
   cases hz : b0.last with
   | ret v =>
    rw [hz] at hL
    intro x hx
    rw [List.mem_singleton.1 hx]; exact hL
   | jump t => simp [clipL, useL]
   | ifs v x y =>
    rw [hz] at hL
    intro x hx
    rw [List.mem_singleton.1 hx]; exact hL.1
 ·intro b hb' v hv of e
  obtain ⟨b0, hb0, rfl⟩ := hb b hb'
  obtain ⟨_, h2⟩ := (h.blocks b0 hb0).vals v hv
  rw [e] at h2
  exact h2
theorem wf_fn {s : List UInt8} {f : Fn} (h : FnIs s f) (hs : s.length <= 1500) : Wf f.blocks := by
 obtain ⟨g, rfl, h2, rfl⟩ := fnIs_inv h
 exact wf_of h2 hs
inductive ErrOf (s : List UInt8) : Int -> Prop
 | text : (1500 < s.length \/ ∀ f, ¬ FnIs s f) -> ErrOf s 1
 | form {f : Fn} : s.length <= 1500 -> FnIs s f -> ¬ Right f.blocks -> ErrOf s 2
end Code
theorem irRead_any (s : ByteArray) (w : World) (ht : Tab w) :
  Calls Tryz.prog 40 #[.string s] w fun e w' =>
   ((∃ er, Code.ErrOf (bl s) er /\ e = .returned (.tuple #[.agg #[.int .i64 0, .slice none 0 0], .int .i64 er])) \/
    (∃ f p c, (bl s).length <= 1500 /\ Code.FnIs (bl s) f /\ Code.Right f.blocks /\ e = .returned (.tuple #[.agg #[.int .i64 (f.args : Nat), .slice p f.blocks.length c], .int .i64 0]) /\ RepBlks w' w.heap.size (.slice p f.blocks.length c) f.blocks)) /\ Below w.heap.size w w' := by
 by_cases hlen : 1500 < (bl s).length
 ·refine (irRead_fail s 1 w fun w' hb => read_long s w' (by rw [<- bl_length]; exact hlen)).mono ?_
  rintro e w' ⟨h1, h2⟩
  exact ⟨Or.inl ⟨1, Code.ErrOf.text (Or.inl hlen), h1⟩, h2⟩
 ·have hs : s = bs (bl s) := (bs_bl s).symm
  generalize bl s = l at *
  subst hs
  by_cases hf : ∃ f, Code.FnIs l f
  ·obtain ⟨f, hf⟩ := hf
   by_cases hr : Code.Right f.blocks
   ·refine (irRead_ok l f w (by omega) ht hf hr).mono ?_
    rintro e w' ⟨p, c, h1, h2, h3⟩
    exact ⟨Or.inr ⟨f, p, c, by omega, hf, hr, h1, h2⟩, h3⟩
   ·refine (irRead_fail (bs l) 2 w fun w' hb => read_form l f w' (by omega) (ht.below hb) hf (Code.wf_fn hf (by omega)) hr).mono ?_
    rintro e w' ⟨h1, h2⟩
    exact ⟨Or.inl ⟨2, Code.ErrOf.form (by omega) hf hr, h1⟩, h2⟩
  ·have hf' : ∀ f, ¬ Code.FnIs l f := fun f h => hf ⟨f, h⟩
   refine (irRead_fail (bs l) 1 w fun w' hb => read_none l w' (by omega) (ht.below hb) hf').mono ?_
   rintro e w' ⟨h1, h2⟩
   exact ⟨Or.inl ⟨1, Code.ErrOf.text (Or.inr hf'), h1⟩, h2⟩
namespace Code
def truth (b : Bool) : Int := if b then 1 else 0
def reckon : Nat -> Int -> Int -> Option Int
 | 0, a, b => some (wrap32 (a + b))
 | 1, a, b => some (wrap32 (a - b))
 | 2, a, b => some (wrap32 (a * b))
 | 3, a, b => if b = 0 then none else some (wrap32 (a.tdiv b))
 | 4, a, b => some (bits .and .i32 a b)
 | 5, a, b => some (bits .or .i32 a b)
 | 6, a, b => some (bits .xor .i32 a b)
 | 7, a, b => some (wrap32 (a * 2 ^ (b % 32).toNat))
 | 8, a, b => some (a / 2 ^ (b % 32).toNat)
 | 9, a, b => some (truth (a == b))
 | 10, a, b => some (truth (decide (a < b)))
 | 11, a, _ => some (wrap32 (-a))
 | _, a, _ => some (bits .xor .i32 (-1) a)
end Code
theorem u32_and31 (n : Int) : bits .and .u32 n 31 = n % 32 := by
 have low : ∀ m : Nat, m &&& 31 = m % 32 := fun m => Nat.and_two_pow_sub_one_eq_mod m 5
 have said : bits .and .u32 n 31 = IntKind.u32.wrap (((BitVec.ofInt 32 n).toNat &&& 31 : Nat) : Int) := rfl
 rw [said, low, BitVec.toNat_ofInt]
 have : IntKind.u32.wrap ((((n % ((2 ^ 32 : Nat) : Int)).toNat % 32 : Nat)) : Int) = ((((n % ((2 ^ 32 : Nat) : Int)).toNat % 32 : Nat)) : Int) := by
  show (((((n % ((2 ^ 32 : Nat) : Int)).toNat % 32 : Nat)) : Int)) % 4294967296 = _
  omega
 rw [this]
 omega
theorem op0 (a b : Int) (w : World) (_ha : -2147483648 <= a) (_ha' : a < 2147483648) (_hb : -2147483648 <= b) (_hb' : b < 2147483648) :
  Calls Tryz.prog 212 #[.int .i64 0, .int .i32 a, .int .i32 b] w fun e w' => e = .returned (.tuple #[.int .i32 (wrap32 (a + b)), .bool true]) /\ w' = w := by
 go_enter Tryz.func212, Tryz.ntmps212
 go_wp2
 go_ret2
 exact ⟨rfl, rfl⟩
theorem op1 (a b : Int) (w : World) (_ha : -2147483648 <= a) (_ha' : a < 2147483648) (_hb : -2147483648 <= b) (_hb' : b < 2147483648) :
  Calls Tryz.prog 212 #[.int .i64 1, .int .i32 a, .int .i32 b] w fun e w' => e = .returned (.tuple #[.int .i32 (wrap32 (a - b)), .bool true]) /\ w' = w := by
 go_enter Tryz.func212, Tryz.ntmps212
 go_wp2
 go_ret2
 exact ⟨rfl, rfl⟩
theorem op2 (a b : Int) (w : World) (_ha : -2147483648 <= a) (_ha' : a < 2147483648) (_hb : -2147483648 <= b) (_hb' : b < 2147483648) :
  Calls Tryz.prog 212 #[.int .i64 2, .int .i32 a, .int .i32 b] w fun e w' => e = .returned (.tuple #[.int .i32 (wrap32 (a * b)), .bool true]) /\ w' = w := by
 go_enter Tryz.func212, Tryz.ntmps212
 go_wp2
 go_ret2
 exact ⟨rfl, rfl⟩
theorem op3 (a b : Int) (w : World) (_ha : -2147483648 <= a) (_ha' : a < 2147483648) (_hb : -2147483648 <= b) (_hb' : b < 2147483648) (hz : ¬ b = 0) :
  Calls Tryz.prog 212 #[.int .i64 3, .int .i32 a, .int .i32 b] w fun e w' => e = .returned (.tuple #[.int .i32 (wrap32 (a.tdiv b)), .bool true]) /\ w' = w := by
 go_enter Tryz.func212, Tryz.ntmps212
 go_wp2
 go_ret2
 exact ⟨rfl, rfl⟩
theorem op3z (a : Int) (w : World) :
  Calls Tryz.prog 212 #[.int .i64 3, .int .i32 a, .int .i32 0] w fun e w' => e = .returned (.tuple #[.int .i32 0, .bool false]) /\ w' = w := by
 go_enter Tryz.func212, Tryz.ntmps212
 go_wp2
 go_ret2
 exact ⟨rfl, rfl⟩
theorem op4 (a b : Int) (w : World) (_ha : -2147483648 <= a) (_ha' : a < 2147483648) (_hb : -2147483648 <= b) (_hb' : b < 2147483648) :
  Calls Tryz.prog 212 #[.int .i64 4, .int .i32 a, .int .i32 b] w fun e w' => e = .returned (.tuple #[.int .i32 (bits .and .i32 a b), .bool true]) /\ w' = w := by
 go_enter Tryz.func212, Tryz.ntmps212
 go_wp2
 go_ret2
 exact ⟨rfl, rfl⟩
theorem op5 (a b : Int) (w : World) (_ha : -2147483648 <= a) (_ha' : a < 2147483648) (_hb : -2147483648 <= b) (_hb' : b < 2147483648) :
  Calls Tryz.prog 212 #[.int .i64 5, .int .i32 a, .int .i32 b] w fun e w' => e = .returned (.tuple #[.int .i32 (bits .or .i32 a b), .bool true]) /\ w' = w := by
 go_enter Tryz.func212, Tryz.ntmps212
 go_wp2
 go_ret2
 exact ⟨rfl, rfl⟩
theorem op6 (a b : Int) (w : World) (_ha : -2147483648 <= a) (_ha' : a < 2147483648) (_hb : -2147483648 <= b) (_hb' : b < 2147483648) :
  Calls Tryz.prog 212 #[.int .i64 6, .int .i32 a, .int .i32 b] w fun e w' => e = .returned (.tuple #[.int .i32 (bits .xor .i32 a b), .bool true]) /\ w' = w := by
 go_enter Tryz.func212, Tryz.ntmps212
 go_wp2
 go_ret2
 exact ⟨rfl, rfl⟩
theorem op7 (a b : Int) (w : World) (_ha : -2147483648 <= a) (_ha' : a < 2147483648) (_hb : -2147483648 <= b) (_hb' : b < 2147483648) :
  Calls Tryz.prog 212 #[.int .i64 7, .int .i32 a, .int .i32 b] w fun e w' => e = .returned (.tuple #[.int .i32 (wrap32 (a * 2 ^ (b % 32).toNat)), .bool true]) /\ w' = w := by
 have h31 := u32_and31 (b % 4294967296)
 rw [show b % 4294967296 % 32 = b % 32 by omega] at h31
 obtain ⟨c, hc⟩ : ∃ c : Nat, b % 32 = (c : Int) := ⟨(b % 32).toNat, by omega⟩
 have hc2 : c < 32 := by omega
 rw [hc] at h31 ⊢
 rw [Int.toNat_natCast]
 clear hc
 go_enter Tryz.func212, Tryz.ntmps212
 go_wp2
 go_ret2
 exact ⟨rfl, rfl⟩
theorem op8 (a b : Int) (w : World) (_ha : -2147483648 <= a) (_ha' : a < 2147483648) (_hb : -2147483648 <= b) (_hb' : b < 2147483648) :
  Calls Tryz.prog 212 #[.int .i64 8, .int .i32 a, .int .i32 b] w fun e w' => e = .returned (.tuple #[.int .i32 (a / 2 ^ (b % 32).toNat), .bool true]) /\ w' = w := by
 have h31 := u32_and31 (b % 4294967296)
 rw [show b % 4294967296 % 32 = b % 32 by omega] at h31
 obtain ⟨c, hc⟩ : ∃ c : Nat, b % 32 = (c : Int) := ⟨(b % 32).toNat, by omega⟩
 have hc2 : c < 32 := by omega
 rw [hc] at h31 ⊢
 rw [Int.toNat_natCast]
 clear hc
 go_enter Tryz.func212, Tryz.ntmps212
 go_wp2
 go_ret2
 exact ⟨rfl, rfl⟩
theorem op9 (a b : Int) (w : World) (_ha : -2147483648 <= a) (_ha' : a < 2147483648) (_hb : -2147483648 <= b) (_hb' : b < 2147483648) :
  Calls Tryz.prog 212 #[.int .i64 9, .int .i32 a, .int .i32 b] w fun e w' => e = .returned (.tuple #[.int .i32 (Code.truth (a == b)), .bool true]) /\ w' = w := by
 cases hq : (a == b)
 all_goals
  go_enter Tryz.func212, Tryz.ntmps212
  go_wp2
  go_ret2
  exact ⟨by simp [Code.truth], rfl⟩
theorem op10 (a b : Int) (w : World) (_ha : -2147483648 <= a) (_ha' : a < 2147483648) (_hb : -2147483648 <= b) (_hb' : b < 2147483648) :
  Calls Tryz.prog 212 #[.int .i64 10, .int .i32 a, .int .i32 b] w fun e w' => e = .returned (.tuple #[.int .i32 (Code.truth (decide (a < b))), .bool true]) /\ w' = w := by
 by_cases hq : a < b
 all_goals
  go_enter Tryz.func212, Tryz.ntmps212
  go_wp2
  go_ret2
  exact ⟨by simp [Code.truth, hq], rfl⟩
theorem op11 (a b : Int) (w : World) (_ha : -2147483648 <= a) (_ha' : a < 2147483648) (_hb : -2147483648 <= b) (_hb' : b < 2147483648) :
  Calls Tryz.prog 212 #[.int .i64 11, .int .i32 a, .int .i32 b] w fun e w' => e = .returned (.tuple #[.int .i32 (wrap32 (-a)), .bool true]) /\ w' = w := by
 go_enter Tryz.func212, Tryz.ntmps212
 go_wp2
 go_ret2
 exact ⟨rfl, rfl⟩
theorem op12 (a b : Int) (w : World) (_ha : -2147483648 <= a) (_ha' : a < 2147483648) (_hb : -2147483648 <= b) (_hb' : b < 2147483648) :
  Calls Tryz.prog 212 #[.int .i64 12, .int .i32 a, .int .i32 b] w fun e w' => e = .returned (.tuple #[.int .i32 (bits .xor .i32 (-1) a), .bool true]) /\ w' = w := by
 go_enter Tryz.func212, Tryz.ntmps212
 go_wp2
 go_ret2
 exact ⟨rfl, rfl⟩
theorem reckon_any (k : Nat) (hk : k < 13) (a b : Int) (w : World) (ha : -2147483648 <= a) (ha' : a < 2147483648) (hb : -2147483648 <= b) (hb' : b < 2147483648) :
  Calls Tryz.prog 212 #[.int .i64 (k : Nat), .int .i32 a, .int .i32 b] w fun e w' =>
   ((∃ n, Code.reckon k a b = some n /\ e = .returned (.tuple #[.int .i32 n, .bool true])) \/ (Code.reckon k a b = none /\ e = .returned (.tuple #[.int .i32 0, .bool false]))) /\ w' = w := by
 match k, hk with
 | 0, _ => exact (op0 a b w ha ha' hb hb').mono fun e w' h => ⟨Or.inl ⟨_, rfl, h.1⟩, h.2⟩
 | 1, _ => exact (op1 a b w ha ha' hb hb').mono fun e w' h => ⟨Or.inl ⟨_, rfl, h.1⟩, h.2⟩
 | 2, _ => exact (op2 a b w ha ha' hb hb').mono fun e w' h => ⟨Or.inl ⟨_, rfl, h.1⟩, h.2⟩
 | 4, _ => exact (op4 a b w ha ha' hb hb').mono fun e w' h => ⟨Or.inl ⟨_, rfl, h.1⟩, h.2⟩
 | 5, _ => exact (op5 a b w ha ha' hb hb').mono fun e w' h => ⟨Or.inl ⟨_, rfl, h.1⟩, h.2⟩
 | 6, _ => exact (op6 a b w ha ha' hb hb').mono fun e w' h => ⟨Or.inl ⟨_, rfl, h.1⟩, h.2⟩
 | 7, _ => exact (op7 a b w ha ha' hb hb').mono fun e w' h => ⟨Or.inl ⟨_, rfl, h.1⟩, h.2⟩
 | 8, _ => exact (op8 a b w ha ha' hb hb').mono fun e w' h => ⟨Or.inl ⟨_, rfl, h.1⟩, h.2⟩
 | 9, _ => exact (op9 a b w ha ha' hb hb').mono fun e w' h => ⟨Or.inl ⟨_, rfl, h.1⟩, h.2⟩
 | 10, _ => exact (op10 a b w ha ha' hb hb').mono fun e w' h => ⟨Or.inl ⟨_, rfl, h.1⟩, h.2⟩
 | 11, _ => exact (op11 a b w ha ha' hb hb').mono fun e w' h => ⟨Or.inl ⟨_, rfl, h.1⟩, h.2⟩
 | 12, _ => exact (op12 a b w ha ha' hb hb').mono fun e w' h => ⟨Or.inl ⟨_, rfl, h.1⟩, h.2⟩
 | 3, _ =>
  by_cases hz : b = 0
  ·subst hz
   exact (op3z a w).mono fun e w' h => ⟨Or.inr ⟨rfl, h.1⟩, h.2⟩
  ·exact (op3 a b w ha ha' hb hb' hz).mono fun e w' h => ⟨Or.inl ⟨_, by simp [Code.reckon, hz], h.1⟩, h.2⟩
namespace Code
end Code
theorem wrap32_in32 (x : Int) : -2147483648 <= wrap32 x /\ wrap32 x < 2147483648 := by unfold wrap32; omega
theorem bits_in32 (o : BinOp) (a b : Int) : -2147483648 <= bits o .i32 a b /\ bits o .i32 a b < 2147483648 := by
 have h : ∃ x, bits o .i32 a b = IntKind.i32.wrap x := ⟨_, rfl⟩
 obtain ⟨x, h⟩ := h
 rw [h, IntKind.wrap_i32]
 omega
theorem shr_in32 (a : Int) (n : Nat) (ha : -2147483648 <= a /\ a < 2147483648) : -2147483648 <= a / 2 ^ n /\ a / 2 ^ n < 2147483648 := by
 have hd : (0 : Int) < 2 ^ n := Int.pow_pos (by omega)
 generalize (2 : Int) ^ n = d at hd
 rcases Int.lt_or_le a 0 with h | h
 ·have h1 : a <= a / d := by
   apply Int.le_ediv_of_mul_le hd
   have := Int.mul_le_mul_of_nonpos_left (a := a) (b := d) (c := 1) (by omega) (by omega)
   omega
  have h2 : a / d < 0 := Int.ediv_neg_of_neg_of_pos h hd
  omega
 ·have h1 : a / d <= a := Int.ediv_le_self d h
  have h2 : 0 <= a / d := Int.ediv_nonneg h (by omega)
  omega
theorem reckon_in32 {k : Nat} {a b n : Int} (h : Code.reckon k a b = some n) (ha : -2147483648 <= a /\ a < 2147483648) (_hb : -2147483648 <= b /\ b < 2147483648) : -2147483648 <= n /\ n < 2147483648 := by
 have ht : ∀ c : Bool, -2147483648 <= Code.truth c /\ Code.truth c < 2147483648 := by decide
 unfold Code.reckon at h
 split at h
 all_goals first
  | (cases h; first | exact wrap32_in32 _ | exact bits_in32 _ _ _ | exact ht _ | exact shr_in32 _ _ ha)
  | (split at h <;> first | (cases h; done) | (cases h; exact wrap32_in32 _))
theorem isConst_const (v : Value) (w : World) : (Instr.typeAssert (.iface 236 v) 167 236 true).run Tryz.prog w = .ok (.tuple #[v, .bool true]) w := by kernel_rfl
theorem isConst_apply (v : Value) (w : World) : (Instr.typeAssert (.iface 238 v) 167 236 true).run Tryz.prog w = .ok (.tuple #[.agg #[.int .i32 0], .bool false]) w := by kernel_rfl
end Go.Proofs.YtedkjanogjglkaaGreatDoor
