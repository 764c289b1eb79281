/-
  Functions of one block as they are written are read as they are.
-/
import Derived.Test.YtdffpkmabehfbaaDoorKText
import Derived.Test.YtdffpkmabehfbaaDoorCBlock
namespace Go.Proofs.YtdffpkmabehfbaaDoor.Code
open Go.Proofs.YtdffpkmabehfbaaDoor.Ref (dec ch digits)

def nameOf (k : Nat) : List UInt8 := (ops.getD k ([], 0, 0)).1

/-- Values behind an operation's name. -/
def ofText : List Nat → List UInt8
  | [] => []
  | x :: l => 32 :: 118 :: (dec x ++ ofText l)

def textT : Thing → List UInt8
  | .phi _ => []
  | .arg n => [97, 114, 103, 32] ++ dec n
  | .const c => [99, 111, 110, 115, 116, 32] ++ digits c
  | .apply k of => nameOf k ++ ofText of

def lineOf (v : Val) : List UInt8 := 118 :: (dec v.num ++ ([32, 61, 32] ++ (textT v.thing ++ [10])))

/-- What may be written. -/
def GoodT (args : Nat) : Thing → Prop
  | .phi _ => False
  | .arg n => n < args
  | .const c => -2147483648 ≤ c ∧ c < 2147483648
  | .apply k of => k < 13 ∧ of.length = opOf k ∧ ∀ x ∈ of, x < 60

theorem stop32 (r : List UInt8) : Stop (32 :: r) := stop_cons rfl
theorem stop10 (r : List UInt8) : Stop (10 :: r) := stop_cons rfl

theorem ofText_stop (of : List Nat) (r : List UInt8) : Stop (ofText of ++ 10 :: r) := by
  cases of with
  | nil => exact stop10 r
  | cons x l => exact stop32 _

theorem ofN_text : ∀ (of : List Nat) (r : List UInt8), (∀ x ∈ of, x < 60) → ofN of.length (ofText of ++ 10 :: r) = some (of, 10 :: r)
  | [], r, _ => rfl
  | x :: l, r, h => by
    have e : cut [32] (32 :: (118 :: (dec x ++ (ofText l ++ 10 :: r)))) = some (118 :: (dec x ++ (ofText l ++ 10 :: r))) := cut_app [32] _
    have ih := ofN_text l r (fun y hy => h y (List.mem_cons_of_mem _ hy))
    show (cut [32] (ofText (x :: l) ++ 10 :: r)).bind _ = _
    have e0 : ofText (x :: l) ++ 10 :: r = 32 :: (118 :: (dec x ++ (ofText l ++ 10 :: r))) := by simp [ofText]
    rw [e0, e, Option.bind_some, value_dec x _ (h x List.mem_cons_self) (ofText_stop l r), Option.bind_some, ih]
    rfl

theorem apply_text (k : Nat) (hk : k < 13) (of : List Nat) (h : of.length = opOf k) (ho : ∀ x ∈ of, x < 60) (args : Nat) (r : List UInt8) :
    ThingOf args (nameOf k ++ (ofText of ++ 10 :: r)) (some (.apply k of, 10 :: r)) := by
  have hof := ofN_text of r ho
  rw [h] at hof
  have hne : ∃ t, ofText of ++ 10 :: r = 32 :: t := by
    cases of with
    | nil =>
      exfalso
      revert h
      match k, hk with
      | 0, _ | 1, _ | 2, _ | 3, _ | 4, _ | 5, _ | 6, _ | 7, _ | 8, _ | 9, _ | 10, _ | 11, _ | 12, _ => decide
    | cons x l => exact ⟨_, rfl⟩
  obtain ⟨t, ht⟩ := hne
  rw [ht] at hof ⊢
  have hw : word (nameOf k ++ 32 :: t) = nameOf k ∧ behind (nameOf k ++ 32 :: t) = 32 :: t ∧ opNamed (nameOf k) = some k ∧ nameOf k ≠ sPhi ∧ nameOf k ≠ sArg ∧ nameOf k ≠ sConst := by
    match k, hk with
    | 0, _ | 1, _ | 2, _ | 3, _ | 4, _ | 5, _ | 6, _ | 7, _ | 8, _ | 9, _ | 10, _ | 11, _ | 12, _ => exact ⟨rfl, rfl, rfl, by decide, by decide, by decide⟩
  obtain ⟨h1, h2, h3, h4, h5, h6⟩ := hw
  have hT := ThingOf.apply (args := args) (s := nameOf k ++ 32 :: t) (by rw [h1]; exact h4) (by rw [h1]; exact h5) (by rw [h1]; exact h6)
  rw [h1, h2] at hT
  unfold apply at hT
  rw [h3, Option.bind_some, hof] at hT
  exact hT

theorem thing_text (args : Nat) (t : Thing) (h : GoodT args t) (ha : args ≤ 60) (r : List UInt8) : ThingOf args (textT t ++ 10 :: r) (some (t, 10 :: r)) := by
  cases t with
  | phi of => exact absurd h id
  | arg n =>
    have hT := ThingOf.arg (args := args) (s := [97, 114, 103, 32] ++ (dec n ++ 10 :: r)) rfl
    have e1 : behind ([97, 114, 103, 32] ++ (dec n ++ 10 :: r)) = 32 :: (dec n ++ 10 :: r) := rfl
    have e2 : cut [32] (32 :: (dec n ++ 10 :: r)) = some (dec n ++ 10 :: r) := cut_app [32] _
    rw [e1, e2, Option.bind_some] at hT
    unfold below at hT
    have hn : n < args := h
    rw [number_dec n _ (by omega) (stop10 r), Option.bind_some, if_pos (by show (n : Int) < (args : Int); omega)] at hT
    show ThingOf args (([97, 114, 103, 32] ++ dec n) ++ 10 :: r) _
    rw [List.append_assoc]
    exact hT
  | const c =>
    have hT := ThingOf.const (args := args) (s := [99, 111, 110, 115, 116, 32] ++ (digits c ++ 10 :: r)) rfl
    have e1 : behind ([99, 111, 110, 115, 116, 32] ++ (digits c ++ 10 :: r)) = 32 :: (digits c ++ 10 :: r) := rfl
    have e2 : cut [32] (32 :: (digits c ++ 10 :: r)) = some (digits c ++ 10 :: r) := cut_app [32] _
    rw [e1, e2, Option.bind_some, signed_digits c _ h.1 h.2 (stop10 r)] at hT
    show ThingOf args (([99, 111, 110, 115, 116, 32] ++ digits c) ++ 10 :: r) _
    rw [List.append_assoc]
    exact hT
  | apply k of =>
    show ThingOf args ((nameOf k ++ ofText of) ++ 10 :: r) _
    rw [List.append_assoc]
    exact apply_text k h.1 of h.2.1 h.2.2 args r

theorem good_phi {args : Nat} {t : Thing} (h : GoodT args t) : t.isPhi = false := by
  cases t with
  | phi of => exact absurd h id
  | _ => rfl

/-- A block's values, written one below the other. -/
def linesOf (l : List Val) : List UInt8 := l.flatMap lineOf

theorem values_text (args : Nat) (ha : args ≤ 60) : ∀ (l : List Val) (b : Bool) (r : List UInt8), (∀ v ∈ l, v.num < 60 ∧ GoodT args v.thing) → cut [118] r = none → ValuesOf args b (linesOf l ++ r) (some (l, r))
  | [], b, r, _, hr => ValuesOf.done hr
  | v :: l, b, r, h, hr => by
    obtain ⟨hv, hg⟩ := h v List.mem_cons_self
    have ih := values_text args ha l v.thing.isPhi r (fun x hx => h x (List.mem_cons_of_mem _ hx)) hr
    have e : linesOf (v :: l) ++ r = 118 :: (dec v.num ++ ([32, 61, 32] ++ (textT v.thing ++ 10 :: (linesOf l ++ r)))) := by simp [linesOf, lineOf]
    rw [e]
    have h1 : cut [118] (118 :: (dec v.num ++ ([32, 61, 32] ++ (textT v.thing ++ 10 :: (linesOf l ++ r))))) = some _ := cut_app [118] _
    have h2 := value_dec v.num ([32, 61, 32] ++ (textT v.thing ++ 10 :: (linesOf l ++ r))) hv (stop32 _)
    have h3 := cut_app [32, 61, 32] (textT v.thing ++ 10 :: (linesOf l ++ r))
    have h4 := thing_text args v.thing hg ha (linesOf l ++ r)
    have h5 : cut [10] (10 :: (linesOf l ++ r)) = some _ := cut_app [10] _
    exact ValuesOf.more h1 h2 h3 h4 (fun hp => by rw [good_phi hg] at hp; cases hp) h5 ih

/-- A function of one block that gives one of its values back. -/
def oneBlock (l : List Val) (v : Nat) : List UInt8 := [98, 48, 58, 10] ++ (linesOf l ++ ([114, 101, 116, 32, 118] ++ (dec v ++ [10])))

theorem block_text (args : Nat) (ha : args ≤ 60) (l : List Val) (v : Nat) (h : ∀ v ∈ l, v.num < 60 ∧ GoodT args v.thing) (hv : v < 60) : BlockIs args 0 (oneBlock l v) ⟨l, .ret v⟩ [] := by
  have h5 := values_text args ha l true ([114, 101, 116, 32, 118] ++ (dec v ++ [10])) h (cut_not (by decide))
  have h6 : last ([114, 101, 116, 32, 118] ++ (dec v ++ [10])) = some (.ret v, [10]) := by
    have e0 : word ([114, 101, 116, 32, 118] ++ (dec v ++ [10])) = sRet := rfl
    have e1 : behind ([114, 101, 116, 32, 118] ++ (dec v ++ [10])) = 32 :: (118 :: (dec v ++ [10])) := rfl
    have e2 : cut [32] (32 :: (118 :: (dec v ++ [10]))) = some (118 :: (dec v ++ [10])) := cut_app [32] _
    unfold last
    rw [if_pos e0, e1, e2, Option.bind_some, value_dec v [10] hv (stop10 [])]
    rfl
  exact BlockIs.mk (r1 := [48, 58, 10] ++ (linesOf l ++ ([114, 101, 116, 32, 118] ++ (dec v ++ [10])))) (r2 := [58, 10] ++ (linesOf l ++ ([114, 101, 116, 32, 118] ++ (dec v ++ [10])))) (cut_app [98] _) (by
    unfold below
    have := number_dec 0 ([58, 10] ++ (linesOf l ++ ([114, 101, 116, 32, 118] ++ (dec v ++ [10])))) (by omega) (stop_cons rfl)
    have e : dec 0 ++ ([58, 10] ++ (linesOf l ++ ([114, 101, 116, 32, 118] ++ (dec v ++ [10])))) = [48, 58, 10] ++ (linesOf l ++ ([114, 101, 116, 32, 118] ++ (dec v ++ [10]))) := rfl
    rw [e] at this
    rw [this]
    rfl) (cut_app [58] _) (cut_app [10] _) h5 h6 (cut_app [10] [])

theorem fn_text (l : List Val) (v : Nat) (h : ∀ v ∈ l, v.num < 60 ∧ GoodT 2 v.thing) (hv : v < 60) : FnIs ([102, 117, 110, 99, 32, 50, 10] ++ oneBlock l v) ⟨2, [⟨l, .ret v⟩]⟩ := by
  refine FnIs.mk (r1 := [50, 10] ++ oneBlock l v) (r2 := [10] ++ oneBlock l v) (r3 := oneBlock l v) (r4 := []) (cut_app sFunc _) ?_ (cut_app [10] _) (block_text 2 (by omega) l v h hv) BlocksIs.nil
  unfold below
  have := number_dec 2 ([10] ++ oneBlock l v) (by omega) (stop_cons rfl)
  have e : dec 2 ++ ([10] ++ oneBlock l v) = [50, 10] ++ oneBlock l v := rfl
  rw [e] at this
  rw [this]
  rfl
end Go.Proofs.YtdffpkmabehfbaaDoor.Code
