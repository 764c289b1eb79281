/-
  Parts of the proof: SdFolded.
-/
import Derived.Test.YtedkjanogjglkaaGreatDoorP28
set_option maxRecDepth 100000
set_option maxHeartbeats 8000000
namespace Go.Proofs.YtedkjanogjglkaaGreatDoor
open Go.RowKit
open Go.Proofs.YtedkjanogjglkaaGreatDoor.Ref (dec ch digits)
theorem MadeOk.second {x y : Int} {l : List Code.Val} {out : List Int} {m : Nat} (h : MadeOk x y l out m) (hm : m <= 40) (hy : -2147483648 <= y /\ y < 2147483648) : out.getD 1 0 = y := by
 have h1 := h.ok1 hm
 obtain ⟨r, rfl, _⟩ := h.head
 rcases h1.holds ⟨1, .arg 1⟩ (List.mem_cons_of_mem _ (List.mem_cons_self ..)) with h2 | ⟨h2, _⟩
 ·have h2 : some (wrap32 y) = some (out.getD 1 0) := h2
  rw [w32_in y hy.1 hy.2, Option.some.injEq] at h2
  exact h2.symm
 ·cases h2
theorem MadeOk.consts {x y : Int} {l : List Code.Val} {out : List Int} {m : Nat} (h : MadeOk x y l out m) (hm : m <= 40) (hx : -2147483648 <= x /\ x < 2147483648) (hy : -2147483648 <= y /\ y < 2147483648) :
  ∃ r, l = ⟨0, .arg 0⟩ :: ⟨1, .arg 1⟩ :: r /\ Code.Ok1 0 [] false true (fun n => out.getD n 0) (⟨0, .const x⟩ :: ⟨1, .const y⟩ :: r) (l.length - 1) := by
 have h1 := h.ok1 hm
 have hx0 := h.first hm hx
 have hy0 := h.second hm hy
 obtain ⟨r, e, hr⟩ := h.head
 refine ⟨r, e, ?_⟩
 have hmem : ∀ v ∈ r, v ∈ l := fun v hv => by rw [e]; exact List.mem_cons_of_mem _ (List.mem_cons_of_mem _ hv)
 have hn : (⟨0, .const x⟩ :: ⟨1, .const y⟩ :: r : List Code.Val).map Code.Val.num = l.map Code.Val.num := by rw [e]; rfl
 have hall : ∀ {P : Code.Val -> Prop}, P ⟨0, .const x⟩ -> P ⟨1, .const y⟩ -> (∀ v ∈ r, P v) -> ∀ v ∈ (⟨0, .const x⟩ :: ⟨1, .const y⟩ :: r : List Code.Val), P v := fun p0 p1 p2 v hv => by
  rcases List.mem_cons.1 hv with rfl | hv
  ·exact p0
  ·rcases List.mem_cons.1 hv with rfl | hv
   ·exact p1
   ·exact p2 v hv
 refine ⟨by rw [hn]; exact h1.once, ?_, hall ⟨by show 0 < 60; omega, hx⟩ ⟨by show 1 < 60; omega, hy⟩ fun v hv => ?_, hall (Or.inl ?_) (Or.inl ?_) fun v hv => ?_, by rw [hn]; exact h1.last, (fun h => by cases h), h1.rng, fun _ => hall rfl rfl fun v hv => h1.nod rfl v (hmem v hv)⟩
 ·have := h1.line
  rw [e] at this
  exact ⟨(fun z hz => by cases hz), (fun z hz => by cases hz), this.2.2⟩
 ·obtain ⟨g1, g2⟩ := h1.good v (hmem v hv)
  refine ⟨g1, ?_⟩
  have := hr v hv
  generalize v.thing = T at *
  cases T with
  | arg n => exact absurd rfl (this n)
  | phi of => exact g2
  | const c => exact g2
  | apply k of => exact g2
 ·show some x = some (out.getD 0 0)
  rw [hx0]
 ·show some y = some (out.getD 1 0)
  rw [hy0]
 ·rcases h1.holds v (hmem v hv) with h2 | ⟨h2, _⟩
  ·refine Or.inl ?_
   rw [<- h2]
   have := hr v hv
   generalize v.thing = T at *
   cases T with
   | arg n => exact absurd rfl (this n)
   | phi of => rfl
   | const c => rfl
   | apply k of => rfl
  ·cases h2
theorem weight_given (s : List UInt8) (f : Code.Fn) (w : World) (hs : s.length <= 1500) (ht : Tab w) (hf : Code.FnIs s f) (hr : Code.Right f.blocks) (hk : ∀ b ∈ f.blocks, ∀ v ∈ b.values, ∀ k of, v.thing = .apply k of -> k < 13) :
  Calls Tryz.prog 17 #[.string (bs s)] w fun e w' => e = .returned (.tuple #[.int .i64 (Code.sumB f.blocks), .int .i64 0]) /\ Below w.heap.size w w' := by
 have HR := hide (irRead_ok s f w hs ht hf hr)
 have HT := hide ht
 have H := hide (And.intro hr hk)
 clear ht hf hr hk hs
 generalize bs s = sb at *
 go_enter Tryz.func17, Tryz.ntmps17
 go_wp2_with fail
 refine HR.out.mono ?_
 rintro e w1 ⟨p, c, rfl, h4, hb⟩
 have H4 := hide h4
 clear h4
 go_wp2_with fail
 generalize hw3 : w1.alloc _ = w3
 have hb3 : Below w1.heap.size w1 w3 := by rw [<- hw3]; exact below_al (Below.refl _ _) _
 clear hw3
 have hbw3 : Below w.heap.size w w3 := hb.trans (hb3.mono hb.size)
 refine (weightF_any f.args f.blocks p c w.heap.size w3 (HT.out.below hbw3) (H4.out.below hb3) H.out.1.most (fun b hb => (H.out.1.small b hb).1) H.out.2).mono ?_
 rintro e w4 ⟨rfl, hb4⟩
 go_wp2
 go_ret2
 exact ⟨rfl, hbw3.trans (hb4.mono hbw3.size)⟩
def FoRuns (ts tx : ByteArray) (res er : Int) : Prop := ∃ wt : Int, (er = 9 \/ wt = 1 \/ tx = ts) /\ (∀ w : World, Tab w -> Calls Tryz.prog 17 #[.string tx] w fun e w' => e = .returned (.tuple #[.int .i64 wt, .int .i64 0]) /\ Below w.heap.size w w') /\
 ∀ w : World, Tab w -> Calls Tryz.prog 25 #[.string tx, .slice none 0 0, .int .i64 1000] w fun e w' => (∃ n : Int, 2 <= n /\ e = .returned (.tuple #[.int .i64 res, .int .i64 n, .int .i64 0])) /\ Below w.heap.size w w'
theorem foGoes {σ : Nat -> Int} {vs : List Code.Val} {r : Nat} (h : Code.Ok1 0 [] false true σ vs r) (hl : (Code.wrF 0 [⟨vs, .ret r⟩]).length <= 1500) (picks : List Int) (pv : Value) (w : World) (hp : PicksAt w pv picks) (hin : ∀ p ∈ picks, -9223372036854775808 <= p /\ p <= 9223372036854775807) (hi : TabI w) (ht : Tab w) :
  Calls Tryz.prog 16 #[.string (bs Code.stdText), .string (bs (Code.wrF 0 [⟨vs, .ret r⟩])), pv] w fun e w' => (∃ tx m er, e = .returned (.tuple #[.string tx, .int .i64 m, .int .i64 er]) /\ (er = 0 \/ er = 9) /\ FoRuns (bs (Code.wrF 0 [⟨vs, .ret r⟩])) tx (σ r) er) /\ Below w.heap.size w w' := by
 refine (sdRewrite (A := []) h (by show 0 < 5; omega) hl picks pv w hp hin hi ht ht.pos).mono ?_
 rintro e w' ⟨⟨vs', r', σ', m, er, rfl, h1, h2, h3, h4, h5⟩, hb⟩
 refine ⟨⟨_, _, er, rfl, h4, Code.sumB [⟨vs', .ret r'⟩], ?_, fun w1 ht1 => ?_, fun w1 ht1 => ?_⟩, hb⟩
 ·rcases h4 with rfl | rfl
  ·obtain ⟨e1, e2⟩ := Code.rew_end h5
   rcases e2 with e2 | e2
   ·exact Or.inr (Or.inr (by rw [e2]; rfl))
   ·obtain ⟨v, c, rfl, hc⟩ := Code.one_const h1 e2 (e1 rfl)
    refine Or.inr (Or.inl ?_)
    obtain ⟨n, t⟩ := v
    obtain rfl : t = .const c := hc
    rfl
  ·exact Or.inl rfl
 ·exact weight_given _ ⟨0, [⟨vs', .ret r'⟩]⟩ w1 h3 ht1 (h1.fn (by decide)) h1.right (fun b hb v hv k of e => by
   obtain rfl := List.mem_singleton.1 hb
   have := (h1.good v hv).2
   rw [e] at this
   exact this.1)
 ·refine (sdRun (A := []) (fu := 1000) h1 (by show 0 < 5; omega) h3 (fun z hz => by cases hz) (by omega) (by omega) (.slice none 0 0) w1 ht1 ⟨rfl, Or.inl ⟨rfl, rfl⟩⟩).mono ?_
  rintro e w2 ⟨⟨n, hn, rfl⟩, hb2⟩
  rw [h2]
  exact ⟨⟨_, by have := hn rfl; omega, rfl⟩, hb2⟩
def hd2 : List UInt8 := [102, 117, 110, 99, 32, 50, 10, 98, 48, 58, 10, 118, 48, 32, 61, 32, 97, 114, 103, 32, 48, 10, 118, 49, 32, 61, 32, 97, 114, 103, 32, 49, 10]
def hd0 : List UInt8 := [102, 117, 110, 99, 32, 48, 10, 98, 48, 58, 10, 118, 48, 32, 61, 32, 99, 111, 110, 115, 116, 32]
def hd1 : List UInt8 := [10, 118, 49, 32, 61, 32, 99, 111, 110, 115, 116, 32]
def foTail (r : List Code.Val) (q : Nat) : List UInt8 := Code.linesOf r ++ ([114, 101, 116, 32, 118] ++ (dec q ++ [10]))
theorem fo_made (r : List Code.Val) (l : List Code.Val) (e : l = ⟨0, .arg 0⟩ :: ⟨1, .arg 1⟩ :: r) : madeText l = hd2 ++ foTail r (l.length - 1) := by
 unfold madeText Code.oneBlock foTail hd2
 rw [e]
 have e0 : dec 0 = [48] := rfl
 have e1 : dec 1 = [49] := rfl
 simp [Code.linesOf, Code.lineOf, Code.textT, e0, e1]
theorem fo_text {σ : Nat -> Int} {x y : Int} {r : List Code.Val} {q : Nat} (h : Code.Ok1 0 [] false true σ (⟨0, .const x⟩ :: ⟨1, .const y⟩ :: r) q) : Code.wrF 0 [⟨⟨0, .const x⟩ :: ⟨1, .const y⟩ :: r, .ret q⟩] = hd0 ++ digits x ++ hd1 ++ digits y ++ [10] ++ foTail r q := by
 rw [Code.wrF_one h.good]
 have e0 : dec 0 = [48] := rfl
 have e1 : dec 1 = [49] := rfl
 unfold Code.oneBlock foTail hd0 hd1
 simp [Code.linesOf, Code.lineOf, Code.textT, e0, e1]
theorem digits_len (c : Int) (h : -2147483648 <= c) (h' : c < 2147483648) : (digits c).length <= 11 := by
 have := textT_const c h h'
 have e : (Code.textT (.const c)).length = 6 + (digits c).length := by show ([99, 111, 110, 115, 116, 32] ++ digits c).length = _; rw [List.length_append]; rfl
 omega
theorem ActsAt.take {w : World} {p : Option Addr} {acts : List (Int × Int × Int)} (h : ActsAt w p acts) (n : Nat) : ActsAt w p (acts.take n) := fun i hi => by
 rw [List.length_take] at hi
 obtain ⟨g, o, e, hg, c0, c1, c2⟩ := h i (by omega)
 refine ⟨g, o, e, hg, ?_, ?_, ?_⟩ <;> rw [List.getElem_take] <;> assumption
theorem foFacts {x y : Int} {l : List Code.Val} {out : List Int} {m : Nat} (h : MadeOk x y l out m) (hm : m <= 40) (hx : -2147483648 <= x /\ x < 2147483648) (hy : -2147483648 <= y /\ y < 2147483648) (picks : List Int) (pv : Value) (w : World) (hp : PicksAt w pv picks) (hin : ∀ p ∈ picks, -9223372036854775808 <= p /\ p <= 9223372036854775807) (hi : TabI w) (ht : Tab w) :
  ∃ tb dx dy tl : ByteArray, tl.size <= 1100 /\ dx.size <= 11 /\ dy.size <= 11 /\ Hid (bs (madeText l) = tb /\ tb.size = 33 + tl.size /\ tb.extract 33 tb.size = tl /\ (33 : Int) <= (tb.size : Int)) /\ Hid (∀ w3, Calls Tryz.prog 26 #[.int .i64 x] w3 fun e w' => e = .returned (.string dx) /\ Below w3.heap.size w3 w') /\ Hid (∀ w3, Calls Tryz.prog 26 #[.int .i64 y] w3 fun e w' => e = .returned (.string dy) /\ Below w3.heap.size w3 w') /\
   Hid (∀ w3, Below w.heap.size w w3 -> Calls Tryz.prog 16 #[.string (bs Code.stdText), .string (⟨#[102, 117, 110, 99, 32, 48, 10, 98, 48, 58, 10, 118, 48, 32, 61, 32, 99, 111, 110, 115, 116, 32]⟩ ++ dx ++ ⟨#[10, 118, 49, 32, 61, 32, 99, 111, 110, 115, 116, 32]⟩ ++ dy ++ ⟨#[10]⟩ ++ tl), pv] w3 fun e w' => (∃ tx m er, e = .returned (.tuple #[.string tx, .int .i64 m, .int .i64 er]) /\ (er = 0 \/ er = 9) /\ FoRuns (⟨#[102, 117, 110, 99, 32, 48, 10, 98, 48, 58, 10, 118, 48, 32, 61, 32, 99, 111, 110, 115, 116, 32]⟩ ++ dx ++ ⟨#[10, 118, 49, 32, 61, 32, 99, 111, 110, 115, 116, 32]⟩ ++ dy ++ ⟨#[10]⟩ ++ tl) tx (out.getD (l.length - 1) 0) er) /\ Below w3.heap.size w3 w') := by
 obtain ⟨r, el, ho⟩ := h.consts hm hx hy
 have em := fo_made r l el
 have et := fo_text ho
 have hs := h.size hm
 have hd : hd2.length = 33 := rfl
 have hd0' : hd0.length = 22 := rfl
 have hd1' : hd1.length = 12 := rfl
 have l1 := digits_len x hx.1 hx.2
 have l2 := digits_len y hy.1 hy.2
 generalize hq : l.length - 1 = q at *
 have hlt : (foTail r q).length <= 1100 := by rw [em, List.length_append] at hs; omega
 have ebs : bs (hd0 ++ digits x ++ hd1 ++ digits y ++ [10] ++ foTail r q) = ⟨#[102, 117, 110, 99, 32, 48, 10, 98, 48, 58, 10, 118, 48, 32, 61, 32, 99, 111, 110, 115, 116, 32]⟩ ++ bs (digits x) ++ ⟨#[10, 118, 49, 32, 61, 32, 99, 111, 110, 115, 116, 32]⟩ ++ bs (digits y) ++ ⟨#[10]⟩ ++ bs (foTail r q) := by
  simp only [<- bs_append]; rfl
 refine ⟨bs (madeText l), bs (digits x), bs (digits y), bs (foTail r q), by rw [bs_size]; exact hlt, by rw [bs_size]; exact l1, by rw [bs_size]; exact l2, hide ⟨rfl, ?_, ?_, ?_⟩, hide fun w3 => kdigits_any x w3 (by omega), hide fun w3 => kdigits_any y w3 (by omega), hide fun w3 h3 => ?_⟩
 ·rw [em, bs_size, bs_size, List.length_append, hd]
 ·rw [em, <- bs_append]
  exact ByteArray.extract_append_eq_right (by rw [bs_size, hd]) (by rw [ByteArray.size_append'])
 ·rw [em, bs_size, List.length_append, hd]; omega
 ·have hg := foGoes ho (by rw [et]; simp only [List.length_append, List.length_cons, List.length_nil]; omega) picks pv w3 (hp.below h3) hin (hi.below h3) (ht.below h3)
  rw [et, ebs] at hg
  exact hg
theorem folded_any (acts : List (Int × Int × Int)) (picks : List Int) (p : Option Addr) (cap : Nat) (pv : Value) (a b : Int) (w : World) (hi : TabI w) (ht : Tab w) (ha : ActsAt w p acts) (hin : ∀ a ∈ acts, In64 a.1 /\ In64 a.2.1 /\ In64 a.2.2) (hal : acts.length <= 9223372036854775807) (hcap : acts.length <= cap) (hp : PicksAt w pv picks) (hpi : ∀ p ∈ picks, -9223372036854775808 <= p /\ p <= 9223372036854775807) :
  Calls Tryz.prog 8 #[.slice p acts.length cap, pv, .int .i64 a, .int .i64 b] w fun e w' => e = .returned (.bool true) /\ Below w.heap.size w w' := by
 have HT := hide ht
 have HI := hide hi
 have HP := hide hp
 have HPI := hide hpi
 obtain ⟨pp, pc, rfl, -⟩ := hp
 have HM : Hid (∀ (x y : Int) (w1 : World), Below w.heap.size w w1 -> -2147483648 <= x /\ x < 2147483648 -> -2147483648 <= y /\ y < 2147483648 -> Calls Tryz.prog 24 #[.slice p (if acts.length <= 16 then acts.length else 16) cap, .int .i64 x, .int .i64 y] w1 fun e w' => ∃ l out m, e = .returned (.tuple #[.string (bs (madeText l)), .int .i64 (out.getD (l.length - 1) 0)]) /\ MadeOk x y l out m /\ m <= 40 /\ Below w1.heap.size w1 w') := hide fun x y w1 h1 hx hy => by
  have hl : (acts.take 16).length = if acts.length <= 16 then acts.length else 16 := by rw [List.length_take]; split <;> omega
  rw [<- hl]
  refine (made_any (acts.take 16) p cap x y w1 ((ha.take 16).below h1) (fun t ht => hin t (List.mem_of_mem_take ht)) hx hy (by rw [List.length_take]; omega)).mono ?_
  rintro e w' ⟨l, out, h2, h3, h4⟩
  exact ⟨l, out, _, h2, h3, Nat.min_le_right _ _, h4⟩
 have hpos : ¬ acts.length <= 16 -> ∃ g o, p = some ⟨g, o, none⟩ := fun h => by
  obtain ⟨g, o, e, _⟩ := ha 0 (by omega)
  exact ⟨g, o, e⟩
 clear ht hi ha hin hpi
 go_enter Tryz.func8, Tryz.ntmps8
 by_cases h16 : acts.length <= 16
 ·rw [if_pos h16] at HM
  have hc : ¬ (16 : Int) < (acts.length : Int) := by omega
  clear hpos
  go_wp2_with fail
  refine (keepRules_any w HI.out HT.out).mono ?_
  rintro e w1 ⟨rfl, hb1⟩
  go_wp2_with fail
  refine (long_any a w1).mono ?_
  rintro e w1 ⟨rfl, rfl⟩
  go_wp2_with fail
  refine (long_any b w1).mono ?_
  rintro e w1 ⟨rfl, rfl⟩
  have HX := hide (w32_in32 a)
  have HY := hide (w32_in32 b)
  generalize wrap32 a = x at *
  generalize wrap32 b = y at *
  go_wp2_with fail
  refine (HM.out x y w1 hb1 HX.out HY.out).mono ?_
  rintro e w2 ⟨l, out, m, rfl, hok, hm, h2⟩
  have hb2 : Below w.heap.size w w2 := hb1.trans (h2.mono hb1.size)
  clear hb1 h2 HM
  obtain ⟨tb, dx, dy, tl, hsz, hdx, hdy, HTB, HDX, HDY, HG⟩ := foFacts hok hm HX.out HY.out picks (.slice pp picks.length pc) w HP.out HPI.out HI.out HT.out
  have HST : Hid (∀ w3, Calls Tryz.prog 18 #[] w3 fun e w' => e = .returned (.string (bs Code.stdText)) /\ w' = w3) := hide standard_any
  rw [HTB.out.1]
  generalize bs Code.stdText = sb at *
  generalize out.getD (l.length - 1) 0 = want at *
  clear hok hm
  go_wp2_with fail
  refine wp_region_held_drew (S := fun w' => Below w2.heap.size w2 w') (by kernel_rfl) (Below.refl _ _).drew (fun hHeld => ?_)
  have hb3 : Below w2.heap.size w2 w2.drew := hHeld
  generalize w2.drew = w3 at hb3 hHeld ⊢
  have t2 := HTB.out.2.2.1
  have t3 := HTB.out.2.2.2
  refine wpAnyH_take (i := 0) (v := .int .i64 x) rfl (by kernel_rfl) (by kernel_rfl) (by kernel_rfl) (fun _ _ _ h => h) (Or.inl ⟨by rfl, fun w' h => by  go_simp⟩) hHeld ?_
  try simp only [Act.put, zz]
  refine wpAnyH_take (i := 4) (v := .int .i64 y) rfl (by kernel_rfl) (by kernel_rfl) (by kernel_rfl) (fun _ _ _ h => h) (Or.inl ⟨by rfl, fun w' h => by  go_simp⟩) hHeld ?_
  try simp only [Act.put, zz]
  refine wpAnyH_take (i := 8) (v := .string tb) rfl (by kernel_rfl) (by kernel_rfl) (by kernel_rfl) (fun _ _ _ h => h) (Or.inl ⟨by rfl, fun w' h => by  go_simp⟩) hHeld ?_
  try simp only [Act.put, zz]
  refine wpAnyH_take (i := 9) (v := .string ⟨#[102, 117, 110, 99, 32, 50, 10, 98, 48, 58, 10, 118, 48, 32, 61, 32, 97, 114, 103, 32, 48, 10, 118, 49, 32, 61, 32, 97, 114, 103, 32, 49, 10]⟩) rfl (by kernel_rfl) (by kernel_rfl) (by kernel_rfl) (fun _ _ _ h => h) (Or.inl ⟨by rfl, fun w' h => by  go_simp⟩) hHeld ?_
  try simp only [Act.put, zz]
  refine wpAnyH_take (i := 10) (v := .int .i64 33) rfl (by kernel_rfl) (by kernel_rfl) (by kernel_rfl) (fun _ _ _ h => h) (Or.inl ⟨by rfl, fun w' h => by  go_simp⟩) hHeld ?_
  try simp only [Act.put, zz]
  refine wpAnyH_take (i := 11) (v := .string tl) rfl (by kernel_rfl) (by kernel_rfl) (by kernel_rfl) (fun _ _ _ h => h) (Or.inl ⟨by rfl, fun w' h => by  go_simp⟩) hHeld ?_
  try simp only [Act.put, zz]
  refine wpAnyH_ready (rs := [1]) (by kernel_rfl) (by simp) ?_
  refine AllReadyH.cons rfl (fun K hK => ?_) AllReadyH.nil
  rw [if_pos (by rfl)]
  go_wp2_with fail
  refine (HDX.out _).mono ?_
  rintro e w4 ⟨rfl, h4⟩
  have hb4 : Below w2.heap.size w2 w4 := hb3.trans (h4.mono hb3.size)
  clear h4 hHeld hb3
  refine hK.out _ _ hb4 (fun hHeld => ?_)
  clear hK K
  try simp only [Act.put, zz]
  have s1 : 22 + dx.size <= 9223372036854775807 := by omega
  have s2 : 22 + dx.size + 12 <= 9223372036854775807 := by omega
  have s3 : 22 + dx.size + 12 + dy.size <= 9223372036854775807 := by omega
  have s4 : 22 + dx.size + 12 + dy.size + 1 <= 9223372036854775807 := by omega
  have s5 : 22 + dx.size + 12 + dy.size + 1 + tl.size <= 9223372036854775807 := by omega
  refine wpAnyH_take (i := 2) (v := .string (⟨#[102, 117, 110, 99, 32, 48, 10, 98, 48, 58, 10, 118, 48, 32, 61, 32, 99, 111, 110, 115, 116, 32]⟩ ++ dx)) rfl (by kernel_rfl) (by kernel_rfl) (by kernel_rfl) (fun _ _ _ h => h) (Or.inl ⟨by rfl, fun w' h => by  go_simp⟩) hb4 ?_
  try simp only [Act.put, zz]
  refine wpAnyH_take (i := 3) (v := .string (⟨#[102, 117, 110, 99, 32, 48, 10, 98, 48, 58, 10, 118, 48, 32, 61, 32, 99, 111, 110, 115, 116, 32]⟩ ++ dx ++ ⟨#[10, 118, 49, 32, 61, 32, 99, 111, 110, 115, 116, 32]⟩)) rfl (by kernel_rfl) (by kernel_rfl) (by kernel_rfl) (fun _ _ _ h => h) (Or.inl ⟨by rfl, fun w' h => by  go_simp⟩) hb4 ?_
  try simp only [Act.put, zz]
  refine wpAnyH_ready (rs := [5]) (by kernel_rfl) (by simp) ?_
  refine AllReadyH.cons rfl (fun K hK => ?_) AllReadyH.nil
  rw [if_pos (by rfl)]
  go_wp2_with fail
  refine (HDY.out _).mono ?_
  rintro e w5 ⟨rfl, h5⟩
  have hb5 : Below w2.heap.size w2 w5 := hb4.trans (h5.mono hb4.size)
  clear h5 hHeld hb4
  refine hK.out _ _ hb5 (fun hHeld => ?_)
  clear hK K
  try simp only [Act.put, zz]
  refine wpAnyH_take (i := 6) (v := .string (⟨#[102, 117, 110, 99, 32, 48, 10, 98, 48, 58, 10, 118, 48, 32, 61, 32, 99, 111, 110, 115, 116, 32]⟩ ++ dx ++ ⟨#[10, 118, 49, 32, 61, 32, 99, 111, 110, 115, 116, 32]⟩ ++ dy)) rfl (by kernel_rfl) (by kernel_rfl) (by kernel_rfl) (fun _ _ _ h => h) (Or.inl ⟨by rfl, fun w' h => by  go_simp⟩) hb5 ?_
  try simp only [Act.put, zz]
  refine wpAnyH_take (i := 7) (v := .string (⟨#[102, 117, 110, 99, 32, 48, 10, 98, 48, 58, 10, 118, 48, 32, 61, 32, 99, 111, 110, 115, 116, 32]⟩ ++ dx ++ ⟨#[10, 118, 49, 32, 61, 32, 99, 111, 110, 115, 116, 32]⟩ ++ dy ++ ⟨#[10]⟩)) rfl (by kernel_rfl) (by kernel_rfl) (by kernel_rfl) (fun _ _ _ h => h) (Or.inl ⟨by rfl, fun w' h => by  go_simp⟩) hb5 ?_
  try simp only [Act.put, zz]
  refine wpAnyH_take (i := 12) (v := .string (⟨#[102, 117, 110, 99, 32, 48, 10, 98, 48, 58, 10, 118, 48, 32, 61, 32, 99, 111, 110, 115, 116, 32]⟩ ++ dx ++ ⟨#[10, 118, 49, 32, 61, 32, 99, 111, 110, 115, 116, 32]⟩ ++ dy ++ ⟨#[10]⟩ ++ tl)) rfl (by kernel_rfl) (by kernel_rfl) (by kernel_rfl) (fun _ _ _ h => h) (Or.inl ⟨by rfl, fun w' h => by  go_simp⟩) hb5 ?_
  try simp only [Act.put, zz]
  have hds : (⟨#[102, 117, 110, 99, 32, 48, 10, 98, 48, 58, 10, 118, 48, 32, 61, 32, 99, 111, 110, 115, 116, 32]⟩ ++ dx ++ ⟨#[10, 118, 49, 32, 61, 32, 99, 111, 110, 115, 116, 32]⟩ ++ dy ++ ⟨#[10]⟩ ++ tl : ByteArray).size <= 1500 := by
   simp only [ByteArray.size_append', ByteArray.size_mk']
   show 22 + dx.size + 12 + dy.size + 1 + tl.size <= 1500
   omega
  generalize (⟨#[102, 117, 110, 99, 32, 48, 10, 98, 48, 58, 10, 118, 48, 32, 61, 32, 99, 111, 110, 115, 116, 32]⟩ ++ dx ++ ⟨#[10, 118, 49, 32, 61, 32, 99, 111, 110, 115, 116, 32]⟩ ++ dy ++ ⟨#[10]⟩ ++ tl : ByteArray) = db at hds HG ⊢
  refine wpAnyH_ready (rs := [13]) (by kernel_rfl) (by simp) ?_
  refine AllReadyH.cons rfl (fun K hK => ?_) AllReadyH.nil
  rw [if_pos (by rfl)]
  go_wp2_with fail
  refine hK.out _ _ hb5 (fun hHeld => ?_)
  clear hK K
  try simp only [Act.put, zz]
  refine wpAnyH_done (by kernel_rfl) ?_ _
  have hb6 : Below w.heap.size w w5 := hb2.trans (hb5.mono hb2.size)
  clear hHeld hb5 hb2 s1 s2 s3 s4 s5 t2 t3 HTB HDX HDY
  go_wp2_with fail
  refine (HST.out w5).mono ?_
  rintro e w5 ⟨rfl, rfl⟩
  go_wp2_with fail
  refine (HG.out w5 hb6).mono ?_
  rintro e w7 ⟨⟨tx, mm, er, rfl, her, wt, hor, hwt, hrun⟩, h7⟩
  have hb7 : Below w.heap.size w w7 := hb6.trans (h7.mono hb6.size)
  have HWT := hide hwt
  have HRUN := hide hrun
  clear h7 hb6 HG HST hwt hrun
  go_wp2_with fail
  refine (HWT.out w7 (HT.out.below hb7)).mono ?_
  rintro e w8 ⟨rfl, h8⟩
  have hb8 : Below w.heap.size w w8 := hb7.trans (h8.mono hb7.size)
  clear h8 hb7 HWT
  go_wp2_with fail
  refine (HRUN.out w8 (HT.out.below hb8)).mono ?_
  rintro e w9 ⟨⟨n, hn, rfl⟩, h9⟩
  have hb9 : Below w.heap.size w w9 := hb8.trans (h9.mono hb8.size)
  clear h9 hb8 HRUN
  have hn' : ¬ n < 2 := by omega
  by_cases h1 : wt = 1
  ·subst h1
   clear hor
   rcases her with rfl | rfl
   all_goals
    go_wp2_with fail
    go_ret
    exact ⟨rfl, hb9⟩
  ·have h1' : (wt == 1) = false := by simpa using h1
   rcases her with rfl | rfl
   ·have htx : tx = db := by
     rcases hor with h | h | h
     ·cases h
     ·exact absurd h h1
     ·exact h
    subst htx
    go_wp2_with fail
    go_ret
    exact ⟨rfl, hb9⟩
   ·clear hor
    go_wp2_with fail
    go_ret
    exact ⟨rfl, hb9⟩
 ·rw [if_neg h16] at HM
  have hc : (16 : Int) < (acts.length : Int) := by omega
  obtain ⟨g, o, rfl⟩ := hpos h16
  have hc2 : 16 <= cap := by omega
  have hc3 : (16 : Int) <= (cap : Int) := by omega
  go_wp2_with fail
  refine (keepRules_any w HI.out HT.out).mono ?_
  rintro e w1 ⟨rfl, hb1⟩
  go_wp2_with fail
  refine (long_any a w1).mono ?_
  rintro e w1 ⟨rfl, rfl⟩
  go_wp2_with fail
  refine (long_any b w1).mono ?_
  rintro e w1 ⟨rfl, rfl⟩
  have HX := hide (w32_in32 a)
  have HY := hide (w32_in32 b)
  generalize wrap32 a = x at *
  generalize wrap32 b = y at *
  go_wp2_with fail
  refine (HM.out x y w1 hb1 HX.out HY.out).mono ?_
  rintro e w2 ⟨l, out, m, rfl, hok, hm, h2⟩
  have hb2 : Below w.heap.size w w2 := hb1.trans (h2.mono hb1.size)
  clear hb1 h2 HM
  obtain ⟨tb, dx, dy, tl, hsz, hdx, hdy, HTB, HDX, HDY, HG⟩ := foFacts hok hm HX.out HY.out picks (.slice pp picks.length pc) w HP.out HPI.out HI.out HT.out
  have HST : Hid (∀ w3, Calls Tryz.prog 18 #[] w3 fun e w' => e = .returned (.string (bs Code.stdText)) /\ w' = w3) := hide standard_any
  rw [HTB.out.1]
  generalize bs Code.stdText = sb at *
  generalize out.getD (l.length - 1) 0 = want at *
  clear hok hm
  go_wp2_with fail
  refine wp_region_held_drew (S := fun w' => Below w2.heap.size w2 w') (by kernel_rfl) (Below.refl _ _).drew (fun hHeld => ?_)
  have hb3 : Below w2.heap.size w2 w2.drew := hHeld
  generalize w2.drew = w3 at hb3 hHeld ⊢
  have t2 := HTB.out.2.2.1
  have t3 := HTB.out.2.2.2
  refine wpAnyH_take (i := 0) (v := .int .i64 x) rfl (by kernel_rfl) (by kernel_rfl) (by kernel_rfl) (fun _ _ _ h => h) (Or.inl ⟨by rfl, fun w' h => by  go_simp⟩) hHeld ?_
  try simp only [Act.put, zz]
  refine wpAnyH_take (i := 4) (v := .int .i64 y) rfl (by kernel_rfl) (by kernel_rfl) (by kernel_rfl) (fun _ _ _ h => h) (Or.inl ⟨by rfl, fun w' h => by  go_simp⟩) hHeld ?_
  try simp only [Act.put, zz]
  refine wpAnyH_take (i := 8) (v := .string tb) rfl (by kernel_rfl) (by kernel_rfl) (by kernel_rfl) (fun _ _ _ h => h) (Or.inl ⟨by rfl, fun w' h => by  go_simp⟩) hHeld ?_
  try simp only [Act.put, zz]
  refine wpAnyH_take (i := 9) (v := .string ⟨#[102, 117, 110, 99, 32, 50, 10, 98, 48, 58, 10, 118, 48, 32, 61, 32, 97, 114, 103, 32, 48, 10, 118, 49, 32, 61, 32, 97, 114, 103, 32, 49, 10]⟩) rfl (by kernel_rfl) (by kernel_rfl) (by kernel_rfl) (fun _ _ _ h => h) (Or.inl ⟨by rfl, fun w' h => by  go_simp⟩) hHeld ?_
  try simp only [Act.put, zz]
  refine wpAnyH_take (i := 10) (v := .int .i64 33) rfl (by kernel_rfl) (by kernel_rfl) (by kernel_rfl) (fun _ _ _ h => h) (Or.inl ⟨by rfl, fun w' h => by  go_simp⟩) hHeld ?_
  try simp only [Act.put, zz]
  refine wpAnyH_take (i := 11) (v := .string tl) rfl (by kernel_rfl) (by kernel_rfl) (by kernel_rfl) (fun _ _ _ h => h) (Or.inl ⟨by rfl, fun w' h => by  go_simp⟩) hHeld ?_
  try simp only [Act.put, zz]
  refine wpAnyH_ready (rs := [1]) (by kernel_rfl) (by simp) ?_
  refine AllReadyH.cons rfl (fun K hK => ?_) AllReadyH.nil
  rw [if_pos (by rfl)]
  go_wp2_with fail
  refine (HDX.out _).mono ?_
  rintro e w4 ⟨rfl, h4⟩
  have hb4 : Below w2.heap.size w2 w4 := hb3.trans (h4.mono hb3.size)
  clear h4 hHeld hb3
  refine hK.out _ _ hb4 (fun hHeld => ?_)
  clear hK K
  try simp only [Act.put, zz]
  have s1 : 22 + dx.size <= 9223372036854775807 := by omega
  have s2 : 22 + dx.size + 12 <= 9223372036854775807 := by omega
  have s3 : 22 + dx.size + 12 + dy.size <= 9223372036854775807 := by omega
  have s4 : 22 + dx.size + 12 + dy.size + 1 <= 9223372036854775807 := by omega
  have s5 : 22 + dx.size + 12 + dy.size + 1 + tl.size <= 9223372036854775807 := by omega
  refine wpAnyH_take (i := 2) (v := .string (⟨#[102, 117, 110, 99, 32, 48, 10, 98, 48, 58, 10, 118, 48, 32, 61, 32, 99, 111, 110, 115, 116, 32]⟩ ++ dx)) rfl (by kernel_rfl) (by kernel_rfl) (by kernel_rfl) (fun _ _ _ h => h) (Or.inl ⟨by rfl, fun w' h => by  go_simp⟩) hb4 ?_
  try simp only [Act.put, zz]
  refine wpAnyH_take (i := 3) (v := .string (⟨#[102, 117, 110, 99, 32, 48, 10, 98, 48, 58, 10, 118, 48, 32, 61, 32, 99, 111, 110, 115, 116, 32]⟩ ++ dx ++ ⟨#[10, 118, 49, 32, 61, 32, 99, 111, 110, 115, 116, 32]⟩)) rfl (by kernel_rfl) (by kernel_rfl) (by kernel_rfl) (fun _ _ _ h => h) (Or.inl ⟨by rfl, fun w' h => by  go_simp⟩) hb4 ?_
  try simp only [Act.put, zz]
  refine wpAnyH_ready (rs := [5]) (by kernel_rfl) (by simp) ?_
  refine AllReadyH.cons rfl (fun K hK => ?_) AllReadyH.nil
  rw [if_pos (by rfl)]
  go_wp2_with fail
  refine (HDY.out _).mono ?_
  rintro e w5 ⟨rfl, h5⟩
  have hb5 : Below w2.heap.size w2 w5 := hb4.trans (h5.mono hb4.size)
  clear h5 hHeld hb4
  refine hK.out _ _ hb5 (fun hHeld => ?_)
  clear hK K
  try simp only [Act.put, zz]
  refine wpAnyH_take (i := 6) (v := .string (⟨#[102, 117, 110, 99, 32, 48, 10, 98, 48, 58, 10, 118, 48, 32, 61, 32, 99, 111, 110, 115, 116, 32]⟩ ++ dx ++ ⟨#[10, 118, 49, 32, 61, 32, 99, 111, 110, 115, 116, 32]⟩ ++ dy)) rfl (by kernel_rfl) (by kernel_rfl) (by kernel_rfl) (fun _ _ _ h => h) (Or.inl ⟨by rfl, fun w' h => by  go_simp⟩) hb5 ?_
  try simp only [Act.put, zz]
  refine wpAnyH_take (i := 7) (v := .string (⟨#[102, 117, 110, 99, 32, 48, 10, 98, 48, 58, 10, 118, 48, 32, 61, 32, 99, 111, 110, 115, 116, 32]⟩ ++ dx ++ ⟨#[10, 118, 49, 32, 61, 32, 99, 111, 110, 115, 116, 32]⟩ ++ dy ++ ⟨#[10]⟩)) rfl (by kernel_rfl) (by kernel_rfl) (by kernel_rfl) (fun _ _ _ h => h) (Or.inl ⟨by rfl, fun w' h => by  go_simp⟩) hb5 ?_
  try simp only [Act.put, zz]
  refine wpAnyH_take (i := 12) (v := .string (⟨#[102, 117, 110, 99, 32, 48, 10, 98, 48, 58, 10, 118, 48, 32, 61, 32, 99, 111, 110, 115, 116, 32]⟩ ++ dx ++ ⟨#[10, 118, 49, 32, 61, 32, 99, 111, 110, 115, 116, 32]⟩ ++ dy ++ ⟨#[10]⟩ ++ tl)) rfl (by kernel_rfl) (by kernel_rfl) (by kernel_rfl) (fun _ _ _ h => h) (Or.inl ⟨by rfl, fun w' h => by  go_simp⟩) hb5 ?_
  try simp only [Act.put, zz]
  have hds : (⟨#[102, 117, 110, 99, 32, 48, 10, 98, 48, 58, 10, 118, 48, 32, 61, 32, 99, 111, 110, 115, 116, 32]⟩ ++ dx ++ ⟨#[10, 118, 49, 32, 61, 32, 99, 111, 110, 115, 116, 32]⟩ ++ dy ++ ⟨#[10]⟩ ++ tl : ByteArray).size <= 1500 := by
   simp only [ByteArray.size_append', ByteArray.size_mk']
   show 22 + dx.size + 12 + dy.size + 1 + tl.size <= 1500
   omega
  generalize (⟨#[102, 117, 110, 99, 32, 48, 10, 98, 48, 58, 10, 118, 48, 32, 61, 32, 99, 111, 110, 115, 116, 32]⟩ ++ dx ++ ⟨#[10, 118, 49, 32, 61, 32, 99, 111, 110, 115, 116, 32]⟩ ++ dy ++ ⟨#[10]⟩ ++ tl : ByteArray) = db at hds HG ⊢
  refine wpAnyH_ready (rs := [13]) (by kernel_rfl) (by simp) ?_
  refine AllReadyH.cons rfl (fun K hK => ?_) AllReadyH.nil
  rw [if_pos (by rfl)]
  go_wp2_with fail
  refine hK.out _ _ hb5 (fun hHeld => ?_)
  clear hK K
  try simp only [Act.put, zz]
  refine wpAnyH_done (by kernel_rfl) ?_ _
  have hb6 : Below w.heap.size w w5 := hb2.trans (hb5.mono hb2.size)
  clear hHeld hb5 hb2 s1 s2 s3 s4 s5 t2 t3 HTB HDX HDY
  go_wp2_with fail
  refine (HST.out w5).mono ?_
  rintro e w5 ⟨rfl, rfl⟩
  go_wp2_with fail
  refine (HG.out w5 hb6).mono ?_
  rintro e w7 ⟨⟨tx, mm, er, rfl, her, wt, hor, hwt, hrun⟩, h7⟩
  have hb7 : Below w.heap.size w w7 := hb6.trans (h7.mono hb6.size)
  have HWT := hide hwt
  have HRUN := hide hrun
  clear h7 hb6 HG HST hwt hrun
  go_wp2_with fail
  refine (HWT.out w7 (HT.out.below hb7)).mono ?_
  rintro e w8 ⟨rfl, h8⟩
  have hb8 : Below w.heap.size w w8 := hb7.trans (h8.mono hb7.size)
  clear h8 hb7 HWT
  go_wp2_with fail
  refine (HRUN.out w8 (HT.out.below hb8)).mono ?_
  rintro e w9 ⟨⟨n, hn, rfl⟩, h9⟩
  have hb9 : Below w.heap.size w w9 := hb8.trans (h9.mono hb8.size)
  clear h9 hb8 HRUN
  have hn' : ¬ n < 2 := by omega
  by_cases h1 : wt = 1
  ·subst h1
   clear hor
   rcases her with rfl | rfl
   all_goals
    go_wp2_with fail
    go_ret
    exact ⟨rfl, hb9⟩
  ·have h1' : (wt == 1) = false := by simpa using h1
   rcases her with rfl | rfl
   ·have htx : tx = db := by
     rcases hor with h | h | h
     ·cases h
     ·exact absurd h h1
     ·exact h
    subst htx
    go_wp2_with fail
    go_ret
    exact ⟨rfl, hb9⟩
   ·clear hor
    go_wp2_with fail
    go_ret
    exact ⟨rfl, hb9⟩
end Go.Proofs.YtedkjanogjglkaaGreatDoor
