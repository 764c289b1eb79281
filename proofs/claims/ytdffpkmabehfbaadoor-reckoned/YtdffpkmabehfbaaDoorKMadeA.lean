/-
  What chiselkeep.made makes, in plain words.
-/
import Derived.Test.YtdffpkmabehfbaaDoorKHeld
import Derived.Deep.AppendLies
namespace Go.Proofs.YtdffpkmabehfbaaDoor
open Go.RowKit
open Go.Proofs.YtdffpkmabehfbaaDoor.Ref (dec ch digits)

/-- Acts in memory. -/
def ActsAt (w : World) (p : Option Addr) (acts : List (Int × Int × Int)) : Prop :=
  ∀ i (h : i < acts.length), ∃ g o, p = some ⟨g, o, none⟩ ∧ g < w.heap.size ∧ w.cell? ⟨g, o + i * 3, none⟩ = some (.int .i64 acts[i].1) ∧ w.cell? ⟨g, o + i * 3 + 1, none⟩ = some (.int .i64 acts[i].2.1) ∧ w.cell? ⟨g, o + i * 3 + 2, none⟩ = some (.int .i64 acts[i].2.2)

theorem own_ints2 (W : World) (x y : Int) {base g : Nat} (hg : g = W.heap.size) (hb : base ≤ g) : (W.alloc (.cells #[.int .i64 x, .int .i64 y] 3)).ownsRow base 3 1 (.slice (some ⟨g, 0, none⟩) 2 2) 2 (ints [x, y]) := by
  subst hg
  exact World.ownsRow_lit W _ 2 hb (by decide) rfl

theorem w32_in32 (x : Int) : -2147483648 ≤ wrap32 x ∧ wrap32 x < 2147483648 := by unfold wrap32; omega

def hdr : List UInt8 := [102, 117, 110, 99, 32, 50, 10, 98, 48, 58, 10]

theorem hdr_two : bs (hdr ++ Code.linesOf [⟨0, .arg 0⟩, ⟨1, .arg 1⟩]) = ⟨#[102, 117, 110, 99, 32, 50, 10, 98, 48, 58, 10, 118, 48, 32, 61, 32, 97, 114, 103, 32, 48, 10, 118, 49, 32, 61, 32, 97, 114, 103, 32, 49, 10]⟩ := rfl

/-- What comes out, written. -/
def madeText (l : List Code.Val) : List UInt8 := [102, 117, 110, 99, 32, 50, 10] ++ Code.oneBlock l (l.length - 1)

/-- What has been made is a function, and comes to these. -/
structure MadeOk (x y : Int) (l : List Code.Val) (out : List Int) (i : Nat) : Prop where
  seq : Code.Seq 0 l
  good : ∀ v ∈ l, Code.GoodT 2 v.thing
  yields : Code.Yields [x, y] [] l out
  in32 : In32 out
  len : l.length = i + 2
  text : (hdr ++ Code.linesOf l).length ≤ 40 + 24 * i

theorem textT_const (c : Int) (h : -2147483648 ≤ c) (h' : c < 2147483648) : (Code.textT (.const c)).length ≤ 17 := by
  show ([99, 111, 110, 115, 116, 32] ++ digits c).length ≤ 17
  rw [List.length_append]
  show 6 + (digits c).length ≤ 17
  unfold digits
  split
  · have := Code.dec_len (-c).toNat 10 (by omega) (by omega)
    rw [List.length_cons]; omega
  · have := Code.dec_len c.toNat 10 (by omega) (by omega)
    omega

theorem MadeOk.snoc {x y : Int} {l : List Code.Val} {out : List Int} {i : Nat} (h : MadeOk x y l out i) {th : Code.Thing} {n : Int} (hg : Code.GoodT 2 th) (hu : ∀ z ∈ Code.useT th, z < i + 2) (hc : Code.comes [x, y] [] out 0 th = some n)
    (hn : -2147483648 ≤ n ∧ n < 2147483648) (ht : (Code.textT th).length ≤ 17) (hi : i ≤ 40) : MadeOk x y (l ++ [⟨i + 2, th⟩]) (out ++ [n]) (i + 1) where
  seq := h.seq.snoc (by rw [h.len]; show i + 2 = 0 + (i + 2); omega) (fun z hz => by rw [h.len]; have := hu z hz; omega)
  good := fun v hv => by
    rcases List.mem_append.1 hv with hv | hv
    · exact h.good v hv
    · rw [List.mem_singleton.1 hv]; exact hg
  yields := h.yields.snoc hc
  in32 := fun v hv => by
    rcases List.mem_append.1 hv with hv | hv
    · exact h.in32 v hv
    · rw [List.mem_singleton.1 hv]; exact hn
  len := by rw [List.length_append, h.len]; show i + 2 + 1 = i + 1 + 2; omega
  text := by
    have h1 := h.text
    have h2 := Code.dec_len (i + 2) 2 (by omega) (by omega)
    have e : hdr ++ Code.linesOf (l ++ [⟨i + 2, th⟩]) = (hdr ++ Code.linesOf l) ++ Code.lineOf ⟨i + 2, th⟩ := by simp [Code.linesOf]
    rw [e, List.length_append]
    have e2 : (Code.lineOf ⟨i + 2, th⟩).length = (dec (i + 2)).length + (Code.textT th).length + 5 := by
      simp [Code.lineOf]; omega
    omega

theorem line_const (l : List Code.Val) (n : Nat) (c : Int) : bs (hdr ++ Code.linesOf (l ++ [⟨n, .const c⟩])) = ((((bs (hdr ++ Code.linesOf l) ++ bs [118]) ++ bs (dec n)) ++ bs [32, 61, 32, 99, 111, 110, 115, 116, 32]) ++ bs (digits c)) ++ bs [10] := by
  rw [bs_append, bs_append, bs_append, bs_append, bs_append]
  congr 1
  simp [Code.linesOf, Code.lineOf, Code.textT]

theorem name_len (q : Nat) (hq : q < 12) : (Code.nameOf (kop q)).length ≤ 3 := by
  match q, hq with
  | 0, _ | 1, _ | 2, _ | 3, _ | 4, _ | 5, _ | 6, _ | 7, _ | 8, _ | 9, _ | 10, _ | 11, _ => decide

theorem comes_const (args out : List Int) (c : Int) : Code.comes args [] out 0 (.const c) = some c := rfl

/-- Which values an operation is of. -/
def ofq (q na nb : Nat) : List Nat := if q < 10 then [na, nb] else [na]


theorem bs1 (a : UInt8) : (⟨#[a]⟩ : ByteArray) = bs [a] := rfl
theorem bs2 (a b : UInt8) : (⟨#[a, b]⟩ : ByteArray) = bs [a, b] := rfl

def In64 (n : Int) : Prop := -9223372036854775808 ≤ n ∧ n ≤ 9223372036854775807

theorem kop_lt {q : Nat} (h : q < 12) : kop q < 13 := by unfold kop; split <;> omega

theorem ofq_len {q : Nat} (hq : q < 12) (na nb : Nat) : (ofq q na nb).length = Code.opOf (kop q) := by
  unfold ofq
  match q, hq with
  | 0, _ | 1, _ | 2, _ | 3, _ | 4, _ | 5, _ | 6, _ | 7, _ | 8, _ | 9, _ | 10, _ | 11, _ => rfl

theorem ofq_lt {q na nb m : Nat} (hA : na < m) (hB : nb < m) : ∀ z ∈ ofq q na nb, z < m := by
  intro z hz
  unfold ofq at hz
  split at hz <;> simp at hz
  · rcases hz with rfl | rfl <;> assumption
  · subst hz; exact hA

theorem ofq_text {q na nb : Nat} (hq : q < 12) (hA : na < 100) (hB : nb < 100) : (Code.textT (.apply (kop q) (ofq q na nb))).length ≤ 17 := by
  have h1 := name_len q hq
  have h2 := Code.dec_len na 2 (by omega) (by omega)
  have h3 := Code.dec_len nb 2 (by omega) (by omega)
  show (Code.nameOf (kop q) ++ Code.ofText (ofq q na nb)).length ≤ 17
  rw [List.length_append]
  have h4 : (Code.ofText (ofq q na nb)).length ≤ 8 := by
    unfold ofq
    split <;> simp [Code.ofText] <;> omega
  omega

theorem reckon_one {q : Nat} (hq : q < 12) (hq10 : ¬ q < 10) (a b c : Int) : Code.reckon (kop q) a b = Code.reckon (kop q) a c := by
  have : q = 10 ∨ q = 11 := by omega
  rcases this with rfl | rfl
  · have e : ∀ z, Code.reckon (kop 10) a z = some (wrap32 (-a)) := fun z => rfl
    rw [e, e]
  · have e : ∀ z, Code.reckon (kop 11) a z = some (bits .xor .i32 (-1) a) := fun z => rfl
    rw [e, e]

theorem ofq_comes {q na nb : Nat} (hq : q < 12) (args out : List Int) (hA : na < out.length) (hB : nb < out.length) {n : Int} (h : Code.reckon (kop q) out[na] out[nb] = some n) : Code.comes args [] out 0 (.apply (kop q) (ofq q na nb)) = some n := by
  have ea : out.getD na 0 = out[na] := by rw [List.getD_eq_getElem?_getD, List.getElem?_eq_getElem hA]; rfl
  have eb : out.getD nb 0 = out[nb] := by rw [List.getD_eq_getElem?_getD, List.getElem?_eq_getElem hB]; rfl
  by_cases hq10 : q < 10
  · have e : ofq q na nb = [na, nb] := if_pos hq10
    rw [e]
    show Code.reckon (kop q) (out.getD na 0) (out.getD nb 0) = some n
    rw [ea, eb]; exact h
  · have e : ofq q na nb = [na] := if_neg hq10
    rw [e]
    show Code.reckon (kop q) (out.getD na 0) (out.getD na 0) = some n
    rw [ea, reckon_one hq hq10 _ _ out[nb]]; exact h

theorem line_apply (l : List Code.Val) (n k : Nat) (of : List Nat) : hdr ++ Code.linesOf (l ++ [⟨n, .apply k of⟩]) = hdr ++ Code.linesOf l ++ [118] ++ dec n ++ [32, 61, 32] ++ Code.nameOf k ++ Code.ofText of ++ [10] := by
  simp [Code.linesOf, Code.lineOf, Code.textT]

theorem MadeOk.start {x y : Int} (hx : -2147483648 ≤ x ∧ x < 2147483648) (hy : -2147483648 ≤ y ∧ y < 2147483648) : MadeOk x y [⟨0, .arg 0⟩, ⟨1, .arg 1⟩] [x, y] 0 where
  seq := ⟨rfl, (fun z hz => absurd hz (List.not_mem_nil)), rfl, (fun z hz => absurd hz (List.not_mem_nil)), trivial⟩
  good := fun v hv => by
    simp at hv
    rcases hv with rfl | rfl
    · show 0 < 2; omega
    · show 1 < 2; omega
  yields := ⟨x, congrArg some (w32_in x hx.1 hx.2), y, congrArg some (w32_in y hy.1 hy.2), rfl⟩
  in32 := fun v hv => by
    simp at hv
    rcases hv with rfl | rfl
    · exact hx
    · exact hy
  len := rfl
  text := by decide

theorem madeText_is (l : List Code.Val) (n : Nat) (h : l.length = n + 1) : bs (madeText l) = ((bs (hdr ++ Code.linesOf l) ++ ⟨#[114, 101, 116, 32, 118]⟩) ++ bs (dec n)) ++ ⟨#[10]⟩ := by
  have e : (⟨#[114, 101, 116, 32, 118]⟩ : ByteArray) = bs [114, 101, 116, 32, 118] := rfl
  rw [e, bs1, bs_append, bs_append, bs_append]
  congr 1
  unfold madeText Code.oneBlock hdr
  rw [show l.length - 1 = n by omega]
  simp

end Go.Proofs.YtdffpkmabehfbaaDoor
