/-
  Parts of the proof: LLightK, LLightW, LLightX.
-/
import Derived.Test.YtedkjanogjglkaaGreatDoorP30
set_option maxRecDepth 100000
set_option maxHeartbeats 4000000
namespace Go.Proofs.YtedkjanogjglkaaGreatDoor
open Go.RowKit
open Go.Proofs.YtedkjanogjglkaaGreatDoor.Code (RTree Nm RSt Prs CRule Pair)
namespace Code
theorem RulesS.det {n : Nat} {s : List UInt8} {a b : Except (Nat × Int) (List CRule)} (ha : RulesS n s a) (hb : RulesS n s b) : a = b := by
 induction ha generalizing b with
 | done => cases hb with
  | done => rfl
  | open_ h => exact absurd rfl h
  | idle h => cases h
  | bad h => cases h
  | more h => cases h
 | open_ h1 h2 => cases hb with
  | done => exact absurd rfl h1
  | open_ => rfl
  | idle h => exact absurd h h2
  | bad h => exact absurd h h2
  | more h => exact absurd h h2
 | idle h1 h2 _ ih => cases hb with
  | done => cases h1
  | open_ _ h => exact absurd h1 h
  | idle _ _ h => exact ih h
  | bad _ h => exact absurd h2 h
  | more _ h => exact absurd h2 h
 | bad h1 h2 h3 => cases hb with
  | open_ _ h => exact absurd h1 h
  | done => cases h1
  | idle _ h => exact absurd h h2
  | bad _ _ h =>
   rw [h3] at h
   simp only [Except.error.injEq] at h
   rw [h]
  | more _ _ h => rw [h3] at h; cases h
 | more h1 h2 h3 _ ih => cases hb with
  | open_ _ h => exact absurd h1 h
  | done => cases h1
  | idle _ h => exact absurd h h2
  | bad _ _ h => rw [h3] at h; cases h
  | more _ _ h h' =>
   rw [h3] at h
   simp only [Except.ok.injEq, Prod.mk.injEq] at h
   obtain ⟨rfl, rfl, rfl⟩ := h
   rw [ih h']
def rulesM : List UInt8 := [40, 109, 117, 108, 32, 120, 32, 56, 41, 32, 61, 62, 32, 40, 115, 104, 108, 32, 120, 32, 51, 41, 10]
def moved : List UInt8 := [102, 117, 110, 99, 32, 49, 10, 98, 48, 58, 10, 118, 48, 32, 61, 32, 97, 114, 103, 32, 48, 10, 118, 51, 32, 61, 32, 99, 111, 110, 115, 116, 32, 51, 10, 118, 50, 32, 61, 32, 115, 104, 108, 32, 118, 48, 32, 118, 51, 10, 114, 101, 116, 32, 118, 50, 10]
def x1 : List UInt8 := [120]
def ruleM : CRule := ⟨.op 2 [.name x1, .num 8], .op 7 [.name x1, .num 3], [(x1, false)]⟩
def fnM : List Blk := [⟨[⟨0, .arg 0⟩, ⟨3, .const 3⟩, ⟨2, .apply 7 [0, 3]⟩], .ret 2⟩]
end Code
theorem rulesAre_det {s : List UInt8} {a b : Except (Nat × Int) (List CRule)} (ha : RulesAre s a) (hb : RulesAre s b) : a = b := by
 rcases ha with ⟨h1, h2⟩ | ⟨h1, h2⟩ <;> rcases hb with ⟨h3, h4⟩ | ⟨h3, h4⟩
 ·rw [h2, h4]
 ·omega
 ·omega
 ·exact Code.RulesS.det h2 h4
theorem RwOut.det {rs ts : List UInt8} {picks : List Int} {o o' : List UInt8} {m m' : Nat} {e e' : Int} (h : RwOut rs ts picks o m e) (h' : RwOut rs ts picks o' m' e') : o = o' /\ m = m' /\ e = e' := by
 cases h with
 | rules h1 =>
  cases h' with
  | rules h2 => have := rulesAre_det h1 h2; simp only [Except.error.injEq, Prod.mk.injEq] at this; exact ⟨rfl, rfl, this.2⟩
  | text h2 _ => cases rulesAre_det h1 h2
  | made h2 _ _ _ _ => cases rulesAre_det h1 h2
 | text h1 h3 =>
  cases h' with
  | rules h2 => cases rulesAre_det h1 h2
  | text _ h4 => exact ⟨rfl, rfl, h3.det h4⟩
  | made _ h4 h5 h6 _ => exact (h3.not h4 h5 h6).elim
 | made h1 h3 h4 h5 h6 =>
  cases h' with
  | rules h2 => cases rulesAre_det h1 h2
  | text _ h7 => exact (h7.not h3 h4 h5).elim
  | made h2 _ h8 _ h10 =>
   have e1 := rulesAre_det h1 h2
   simp only [Except.ok.injEq] at e1
   have e2 := Code.FnIs.det h4 h8
   subst e1 e2
   obtain ⟨r1, r2, r3⟩ := h6.det h10
   exact ⟨by rw [r1], r2, r3⟩
theorem areM : RulesAre Code.rulesM (.ok [Code.ruleM]) := Or.inr ⟨by decide, Code.RulesS.more (o := .ok []) (by decide) (by decide) (by kernel_rfl) (by
 have e : Code.nextOf Code.rulesM = [] := by kernel_rfl
 rw [e]
 exact .done)⟩
theorem rewM : Code.RewS 1 [Code.ruleM] [] 0 Code.fnW1.blocks Code.fnM 1 0 :=
 .next (p := ⟨0, 2, Code.ruleM⟩) (by kernel_rfl) (by kernel_rfl) (.done (by kernel_rfl))
theorem outM : RwOut Code.rulesM Code.textW1 [] Code.moved 1 0 := by
 have h := RwOut.made (rs := Code.rulesM) (ts := Code.textW1) (picks := []) areM (by decide) Code.isW1 Code.rightW1 rewM
 have e : Code.wrF Code.fnW1.args Code.fnM = Code.moved := by kernel_rfl
 rw [e] at h
 exact h
theorem outAgain {rs : List UInt8} {picks : List Int} {l : List CRule} {args m : Nat} {bks out : List Code.Blk} (hl : RulesAre rs (.ok l)) (h : Code.Lighter args l 0 bks out m 0) : RwOut rs (Code.wrF args out) picks (Code.wrF args out) 0 0 := by
 have hp : Code.pairs l out = [] := by
  rcases h.ends with ⟨_, h⟩ | h
  ·exact h
  ·omega
 exact .made (f := ⟨args, out⟩) hl h.short (Code.back_text h.wff h.right) h.right (.done hp)
theorem picksNone (w : World) : PicksAt w (.slice none 0 0) [] := ⟨none, 0, rfl, fun j h => by simp at h⟩
theorem rewriteG (w : World) (hi : TabI w) (ht : Tab w) (hw : 0 < w.heap.size) : Calls Tryz.prog 16 #[.string (bs Code.rulesM), .string (bs Code.textW1), .slice none 0 0] w fun e w' => e = .returned (.tuple #[.string (bs Code.moved), .int .i64 1, .int .i64 0]) /\ Below w.heap.size w w' := by
 refine (chiselRewrite_any Code.rulesM Code.textW1 [] (.slice none 0 0) w (picksNone w) (by simp) hi ht hw).mono ?_
 rintro e w' ⟨⟨o, m, er, h, rfl⟩, hb⟩
 obtain ⟨rfl, rfl, rfl⟩ := h.det outM
 exact ⟨rfl, hb⟩
theorem keepRules_any (w : World) (hi : TabI w) (ht : Tab w) : Calls Tryz.prog 15 #[] w fun e w' => e = .returned (.bool true) /\ Below w.heap.size w w' := by
 have hp := ht.pos
 have HR := hide (rewriteG w hi ht hp)
 clear hi ht
 go_enter Tryz.func15, Tryz.ntmps15
 go_wp2_with fail
 refine HR.out.mono ?_
 rintro e w1 ⟨rfl, hb1⟩
 have hq : ((bs Code.moved).toList == [102, 117, 110, 99, 32, 49, 10, 98, 48, 58, 10, 118, 48, 32, 61, 32, 97, 114, 103, 32, 48, 10, 118, 51, 32, 61, 32, 99, 111, 110, 115, 116, 32, 51, 10, 118, 50, 32, 61, 32, 115, 104, 108, 32, 118, 48, 32, 118, 51, 10, 114, 101, 116, 32, 118, 50, 10]) = true := by
  rw [ByteArray.toList_eq]
  kernel_rfl
 generalize bs Code.moved = mv at *
 go_wp2
 go_ret
 exact ⟨rfl, hb1⟩
inductive LightOut (rs ts : List UInt8) (picks : List Int) : List UInt8 -> Nat -> Int -> Int -> Int -> Int -> Prop
 | rules {e wt f : Int} : e = 6 \/ e = 7 \/ e = 8 -> LightOut rs ts picks [] 0 e wt f e
 | text {e : Int} : e = 1 \/ e = 2 -> LightOut rs ts picks [] 0 e 0 e 0
 | made {l : List CRule} {f : Code.Fn} {out : List Code.Blk} {m : Nat} {e : Int} : RulesAre rs (.ok l) -> Code.Lighter f.args l 0 f.blocks out m e -> Code.sumB f.blocks <= 160000 -> LightOut rs ts picks (Code.wrF f.args out) m e (Code.sumB f.blocks) 0 0
def whyOf : Except (Nat × Int) (List CRule) -> Int
 | .ok _ => 0
 | .error q => q.2
theorem lightOut_of {rs ts o : List UInt8} {picks : List Int} {m : Nat} {e wt f : Int} {ro : Except (Nat × Int) (List CRule)} (h : RwOut rs ts picks o m e) (hw : (∃ er, Code.ErrOf ts er /\ wt = 0 /\ f = er) \/ ∃ g, ts.length <= 1500 /\ Code.FnIs ts g /\ Code.Right g.blocks /\ wt = Code.sumB g.blocks /\ f = 0) (hr : RulesAre rs ro) : LightOut rs ts picks o m e wt f (whyOf ro) := by
 cases h with
 | rules h1 =>
  have := rulesAre_det hr h1
  subst this
  exact .rules (rulesAre_why h1)
 | text h1 h2 =>
  have := rulesAre_det hr h1
  subst this
  rcases hw with ⟨er, h3, rfl, rfl⟩ | ⟨g, h3, h4, h5, _, _⟩
  ·rw [h2.det h3]
   exact .text (errOf_not0 h3)
  ·exact (h2.not h3 h4 h5).elim
 | made h1 h2 h3 h4 h5 =>
  have := rulesAre_det hr h1
  subst this
  rcases hw with ⟨er, h6, _, _⟩ | ⟨g, _, h7, _, rfl, rfl⟩
  ·exact (h6.not h2 h3 h4).elim
  ·rw [h3.det h7] at *
   have hs := Code.text_back h7 h4
   exact .made h1 (Code.rew_lighter (fun R hR => ((rulesAre_in h1).1 R hR).ok) h5 (Code.wff_of h7 h2 h4) h4 (by rw [hs]; exact h2)) (by have := (Code.right_fine (Code.wff_of h7 h2 h4) h4).good.sum; omega)
theorem weightBack {args m : Nat} {l : List CRule} {bks out : List Code.Blk} {e : Int} (h : Code.Lighter args l 0 bks out m e) (w : World) (ht : Tab w) : Calls Tryz.prog 17 #[.string (bs (Code.wrF args out))] w fun e w' => e = .returned (.tuple #[.int .i64 (Code.sumB out), .int .i64 0]) /\ Below w.heap.size w w' := by
 refine (weight_any (bs (Code.wrF args out)) w ht).mono ?_
 rw [bl_bs]
 have hf := Code.back_text h.wff h.right
 rintro e w' ⟨⟨er, h1, _⟩ | ⟨g, h1, h2, _, rfl⟩, hb⟩
 ·exact (h1.not h.short hf h.right).elim
 ·rw [h2.det hf]
  exact ⟨rfl, hb⟩
theorem rewriteBack {rs : List UInt8} {picks : List Int} {args m : Nat} {l : List CRule} {bks out : List Code.Blk} (hl : RulesAre rs (.ok l)) (h : Code.Lighter args l 0 bks out m 0) (pv : Value) (w : World) (hp : PicksAt w pv picks) (hin : ∀ p ∈ picks, -9223372036854775808 <= p /\ p <= 9223372036854775807) (hi : TabI w) (ht : Tab w) (hw : 0 < w.heap.size) :
  Calls Tryz.prog 16 #[.string (bs rs), .string (bs (Code.wrF args out)), pv] w fun e w' => e = .returned (.tuple #[.string (bs (Code.wrF args out)), .int .i64 0, .int .i64 0]) /\ Below w.heap.size w w' := by
 refine (chiselRewrite_any rs (Code.wrF args out) picks pv w hp hin hi ht hw).mono ?_
 rintro e w' ⟨⟨o, k, er, h1, rfl⟩, hb⟩
 obtain ⟨rfl, rfl, rfl⟩ := h1.det (outAgain hl h)
 exact ⟨rfl, hb⟩
theorem weightBoth (ts : List UInt8) (w : World) (ht : Tab w) : Calls Tryz.prog 17 #[.string (bs ts)] w fun e w' => ∃ wt f, ((∃ er, Code.ErrOf ts er /\ wt = 0 /\ f = er) \/ ∃ g, ts.length <= 1500 /\ Code.FnIs ts g /\ Code.Right g.blocks /\ wt = Code.sumB g.blocks /\ f = 0) /\ e = .returned (.tuple #[.int .i64 wt, .int .i64 f]) /\ Below w.heap.size w w' := by
 refine (weight_any (bs ts) w ht).mono ?_
 rw [bl_bs]
 rintro e w' ⟨⟨er, h1, rfl⟩ | ⟨g, h1, h2, h3, rfl⟩, hb⟩
 ·exact ⟨0, er, Or.inl ⟨er, h1, rfl, rfl⟩, rfl, hb⟩
 ·exact ⟨_, 0, Or.inr ⟨g, h1, h2, h3, rfl, rfl⟩, rfl, hb⟩
theorem rulesBoth (s : List UInt8) (o : Except (Nat × Int) (List CRule)) (ho : RulesAre s o) (w : World) (ht : Tab w) : Calls Tryz.prog 11 #[.string (bs s)] w fun e w' => ∃ a b : Int, e = .returned (.tuple #[.int .i64 a, .int .i64 b, .int .i64 (whyOf o)]) /\ Below w.heap.size w w' := by
 refine (rules_any s o ho w ht ht.pos).mono ?_
 rintro e w' ⟨⟨rs, rfl, rfl⟩ | ⟨n, why, rfl, rfl⟩, hb⟩
 ·exact ⟨_, _, rfl, hb⟩
 ·exact ⟨_, _, rfl, hb⟩
theorem lighterLaw_any (ls s : ByteArray) (picks : List Int) (pv : Value) (w : World) (hp : PicksAt w pv picks) (hin : ∀ p ∈ picks, -9223372036854775808 <= p /\ p <= 9223372036854775807) (hi : TabI w) (ht : Tab w) : Calls Tryz.prog 5 #[.string ls, .string s, pv] w fun e w' => e = .returned (.bool true) /\ Below w.heap.size w w' := by
 have h1 : ls = bs (bl ls) := (bs_bl ls).symm
 have h2 : s = bs (bl s) := (bs_bl s).symm
 generalize bl ls = rs at *
 generalize bl s = ts at *
 subst h1 h2
 obtain ⟨ro, hro⟩ := rulesAre_all rs
 have HK := hide (keepRules_any w hi ht)
 have HW : Hid (∀ w', Below w.heap.size w w' -> Calls Tryz.prog 16 #[.string (bs rs), .string (bs ts), pv] w' fun e w'' => (∃ o m er, RwOut rs ts picks o m er /\ e = .returned (.tuple #[.string (bs o), .int .i64 (m : Nat), .int .i64 er])) /\ Below w'.heap.size w' w'') := hide fun w' h => chiselRewrite_any rs ts picks pv w' (hp.below h) hin (hi.below h) (ht.below h) (ht.below h).pos
 have HT : Hid (∀ w', Below w.heap.size w w' -> Calls Tryz.prog 17 #[.string (bs ts)] w' fun e w'' => ∃ wt f, ((∃ er, Code.ErrOf ts er /\ wt = 0 /\ f = er) \/ ∃ g, ts.length <= 1500 /\ Code.FnIs ts g /\ Code.Right g.blocks /\ wt = Code.sumB g.blocks /\ f = 0) /\ e = .returned (.tuple #[.int .i64 wt, .int .i64 f]) /\ Below w'.heap.size w' w'') := hide fun w' h => weightBoth ts w' (ht.below h)
 have HR : Hid (∀ w', Below w.heap.size w w' -> Calls Tryz.prog 11 #[.string (bs rs)] w' fun e w'' => ∃ a b : Int, e = .returned (.tuple #[.int .i64 a, .int .i64 b, .int .i64 (whyOf ro)]) /\ Below w'.heap.size w' w'') := hide fun w' h => rulesBoth rs ro hro w' (ht.below h)
 have HB : Hid (∀ w' args m l bks out e, Below w.heap.size w w' -> Code.Lighter args l 0 bks out m e -> Calls Tryz.prog 17 #[.string (bs (Code.wrF args out))] w' fun e w'' => e = .returned (.tuple #[.int .i64 (Code.sumB out), .int .i64 0]) /\ Below w'.heap.size w' w'') := hide fun w' args m l bks out e h hl => weightBack hl w' (ht.below h)
 have HA : Hid (∀ w' args m l bks out, Below w.heap.size w w' -> RulesAre rs (.ok l) -> Code.Lighter args l 0 bks out m 0 -> Calls Tryz.prog 16 #[.string (bs rs), .string (bs (Code.wrF args out)), pv] w' fun e w'' => e = .returned (.tuple #[.string (bs (Code.wrF args out)), .int .i64 0, .int .i64 0]) /\ Below w'.heap.size w' w'') := hide fun w' args m l bks out h hr hl => rewriteBack hr hl pv w' (hp.below h) hin (hi.below h) (ht.below h) (ht.below h).pos
 have HRO := hide hro
 obtain ⟨pp, pc, rfl, _⟩ := hp
 clear hro hi ht hin
 go_enter Tryz.func5, Tryz.ntmps5
 go_wp2_with fail
 refine HK.out.mono ?_
 rintro e w1 ⟨rfl, hb1⟩
 go_wp2_with fail
 refine (HW.out w1 hb1).mono ?_
 rintro e w2 ⟨⟨o, m, er, hout, rfl⟩, hb2⟩
 have hbw2 : Below w.heap.size w w2 := hb1.trans (hb2.mono hb1.size)
 have HO := hide hout
 clear hout
 go_wp2_with fail
 refine (HT.out w2 hbw2).mono ?_
 rintro e w3 ⟨wt, f, hwf, rfl, hb3⟩
 have hbw3 : Below w.heap.size w w3 := hbw2.trans (hb3.mono hbw2.size)
 have HWF := hide hwf
 clear hwf
 go_wp2_with fail
 refine (HR.out w3 hbw3).mono ?_
 rintro e w4 ⟨na, nb, rfl, hb4⟩
 have hbw4 : Below w.heap.size w w4 := hbw3.trans (hb4.mono hbw3.size)
 have hL := lightOut_of HO.out HWF.out HRO.out
 generalize whyOf ro = why at *
 clear HO HWF HRO HT HR HW HK
 cases hL with
 | rules hw =>
  have e0 : ¬ er = 0 := by omega
  have e9 : ¬ er = 9 := by omega
  have e0' : (er == 0) = false := beq_eq_false_iff_ne.2 e0
  have e9' : (er == 9) = false := beq_eq_false_iff_ne.2 e9
  have n0 : (er != 0) = true := bne_iff_ne.2 e0
  have n9 : (er != 9) = true := bne_iff_ne.2 e9
  clear hw
  have hq : (bs ([] : List UInt8)) = { data := #[] } := rfl
  rw [hq]
  go_wp2
  go_ret
  exact ⟨rfl, hbw4⟩
 | text hw =>
  have e0 : ¬ er = 0 := by omega
  have e9 : ¬ er = 9 := by omega
  have e0' : (er == 0) = false := beq_eq_false_iff_ne.2 e0
  have e9' : (er == 9) = false := beq_eq_false_iff_ne.2 e9
  have n0 : (er != 0) = true := bne_iff_ne.2 e0
  have n9 : (er != 9) = true := bne_iff_ne.2 e9
  clear hw
  have hq : (bs ([] : List UInt8)) = { data := #[] } := rfl
  rw [hq]
  go_wp2
  go_ret
  exact ⟨rfl, hbw4⟩
 | @made l f out m e hl hlt hsum =>
  have HLT := hide hlt
  have HRL := hide hl
  have hlight := hlt.light
  have hends : er = 0 \/ er = 9 := by
   rcases hlt.ends with ⟨h, _⟩ | h
   ·exact Or.inl h
   ·exact Or.inr h
  have hA0 := Code.sumB_nonneg out
  have HB1 : Hid (Calls Tryz.prog 17 #[.string (bs (Code.wrF f.args out))] w4 fun e w'' => e = .returned (.tuple #[.int .i64 (Code.sumB out), .int .i64 0]) /\ Below w4.heap.size w4 w'') := hide (HB.out w4 _ _ _ _ _ _ hbw4 hlt)
  have HA1 : Hid (er = 0 -> ∀ w', Below w.heap.size w w' -> Calls Tryz.prog 16 #[.string (bs rs), .string (bs (Code.wrF f.args out)), .slice pp picks.length pc] w' fun e w'' => e = .returned (.tuple #[.string (bs (Code.wrF f.args out)), .int .i64 0, .int .i64 0]) /\ Below w'.heap.size w' w'') := hide fun h0 w' h => HA.out w' _ _ _ _ _ h hl (by rw [<- h0]; exact hlt)
  generalize Code.wrF f.args out = TO at *
  generalize Code.sumB out = A at *
  generalize Code.sumB f.blocks = B at *
  rw [Nat.sub_zero] at hlight
  clear hlt hl HB HA HLT HRL
  have hm0 : ¬ (m : Int) < 0 := by omega
  have hgt : ¬ B < A + (m : Int) := by omega
  have hadd : A + (m : Int) <= 160000 := by omega
  have hle : A <= 160000 := by omega
  rcases hends with rfl | rfl
  ·have HA2 := hide (HA1.out rfl)
   clear HA1
   go_wp2_with fail
   refine HB1.out.mono ?_
   rintro e w5 ⟨rfl, hb5⟩
   have hbw5 : Below w.heap.size w w5 := hbw4.trans (hb5.mono hbw4.size)
   go_wp2_with fail
   refine (HA2.out w5 hbw5).mono ?_
   rintro e w6 ⟨rfl, hb6⟩
   have hbw6 : Below w.heap.size w w6 := hbw5.trans (hb6.mono hbw5.size)
   go_wp2
   go_ret
   exact ⟨rfl, hbw6⟩
  ·go_wp2_with fail
   refine HB1.out.mono ?_
   rintro e w5 ⟨rfl, hb5⟩
   have hbw5 : Below w.heap.size w w5 := hbw4.trans (hb5.mono hbw4.size)
   go_wp2
   go_ret
   exact ⟨rfl, hbw5⟩
end Go.Proofs.YtedkjanogjglkaaGreatDoor
