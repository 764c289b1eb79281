/-
  Parts of the proof: CEval, CCheck, CTexts, LRuledK, LRuledX.
-/
import Derived.Test.YtedkjanogjglkaaGreatDoorP07
import Derived.KernelRfl
import Derived.Test.YtedkjanogjglkaaGreatDoorP24
import Derived.Test.YtedkjanogjglkaaGreatDoorP29
namespace Go.Proofs.YtedkjanogjglkaaGreatDoor
namespace Code
def phiF : Nat → List UInt8 → Option (List Nat × List UInt8)
 | 0, _ => none
 | n + 1, s => match cut [32] s with
  | none => some ([], s)
  | some r => (value r).bind fun p => (phiF n p.2).map fun q => (p.1 :: q.1, q.2)
theorem phiF_sound : ∀ (n : Nat) (s : List UInt8) (o : List Nat × List UInt8), phiF n s = some o → PhiOf s (some o)
 | 0, _, _, h => by cases h
 | n + 1, s, o, h => by
  unfold phiF at h
  split at h
  ·rename_i hc
   cases h
   exact PhiOf.done hc
  ·rename_i r hc
   cases hv : value r with
   | none => rw [hv] at h; cases h
   | some p =>
    rw [hv] at h
    simp only [Option.bind_some] at h
    cases hq : phiF n p.2 with
    | none => rw [hq] at h; cases h
    | some q =>
     rw [hq] at h
     cases h
     exact PhiOf.more hc hv (phiF_sound n _ _ hq)
def thingF (n a : Nat) (s : List UInt8) : Option (Thing × List UInt8) :=
 if word s = sPhi then (phiF n (behind s)).map fun p => (.phi p.1, p.2)
 else if word s = sArg then (cut [32] (behind s)).bind fun r => (below a r).map fun p => (.arg p.1, p.2)
 else if word s = sConst then (cut [32] (behind s)).bind fun r => (signed r).map fun p => (.const p.1, p.2)
 else apply (word s) (behind s)
theorem thingF_sound {n a : Nat} {s : List UInt8} {o : Thing × List UInt8} (h : thingF n a s = some o) : ThingOf a s (some o) := by
 unfold thingF at h
 split at h
 ·rename_i h1
  cases hp : phiF n (behind s) with
  | none => rw [hp] at h; cases h
  | some q =>
   rw [hp] at h
   cases h
   exact ThingOf.phi h1 (phiF_sound _ _ _ hp)
 ·rename_i h1
  split at h
  ·rename_i h2
   rw [← h]
   exact ThingOf.arg h2
  ·rename_i h2
   split at h
   ·rename_i h3
    rw [← h]
    exact ThingOf.const h3
   ·rename_i h3
    rw [← h]
    exact ThingOf.apply h1 h2 h3
def valuesF : Nat → Nat → Bool → List UInt8 → Option (List Val × List UInt8)
 | 0, _, _, _ => none
 | n + 1, a, b, s => match cut [118] s with
  | none => some ([], s)
  | some _ => (value s).bind fun p => (cut [32, 61, 32] p.2).bind fun u => (thingF 60 a u).bind fun y =>
   if y.1.isPhi = true ∧ b = false then none else (cut [10] y.2).bind fun z => (valuesF n a y.1.isPhi z).map fun q => (⟨p.1, y.1⟩ :: q.1, q.2)
theorem valuesF_sound : ∀ (n a : Nat) (b : Bool) (s : List UInt8) (o : List Val × List UInt8), valuesF n a b s = some o → ValuesOf a b s (some o)
 | 0, _, _, _, _, h => by cases h
 | n + 1, a, b, s, o, h => by
  unfold valuesF at h
  split at h
  ·rename_i hc
   cases h
   exact ValuesOf.done hc
  ·rename_i r hc
   cases hv : value s with
   | none => rw [hv] at h; cases h
   | some p =>
    rw [hv] at h
    simp only [Option.bind_some] at h
    cases hu : cut [32, 61, 32] p.2 with
    | none => rw [hu] at h; cases h
    | some u =>
     rw [hu] at h
     simp only [Option.bind_some] at h
     cases hy : thingF 60 a u with
     | none => rw [hy] at h; cases h
     | some y =>
      rw [hy] at h
      simp only [Option.bind_some] at h
      split at h
      ·cases h
      ·rename_i hph
       cases hz : cut [10] y.2 with
       | none => rw [hz] at h; cases h
       | some z =>
        rw [hz] at h
        simp only [Option.bind_some] at h
        cases hq : valuesF n a y.1.isPhi z with
        | none => rw [hq] at h; cases h
        | some q =>
         rw [hq] at h
         cases h
         refine ValuesOf.more hc hv hu (thingF_sound hy) (fun hp => ?_) hz (valuesF_sound n _ _ _ _ hq)
         cases b
         ·exact absurd ⟨hp, rfl⟩ hph
         ·rfl
def blockF (a num : Nat) (s : List UInt8) : Option (Blk × List UInt8) :=
 (cut [98] s).bind fun r1 => (below 8 r1).bind fun p => if p.1 ≠ num then none else (cut [58] p.2).bind fun r3 => (cut [10] r3).bind fun r4 => (valuesF 61 a true r4).bind fun q => (last q.2).bind fun z => (cut [10] z.2).map fun r7 => (⟨q.1, z.1⟩, r7)
theorem blockF_sound {a num : Nat} {s t : List UInt8} {b : Blk} (h : blockF a num s = some (b, t)) : BlockIs a num s b t := by
 unfold blockF at h
 cases h1 : cut [98] s with
 | none => rw [h1] at h; cases h
 | some r1 =>
  rw [h1] at h
  simp only [Option.bind_some] at h
  cases h2 : below 8 r1 with
  | none => rw [h2] at h; cases h
  | some p =>
   rw [h2] at h
   simp only [Option.bind_some] at h
   split at h
   ·cases h
   ·rename_i hn
    have hn' : p.1 = num := Classical.byContradiction hn
    obtain ⟨m, r2⟩ := p
    subst hn'
    cases h3 : cut [58] r2 with
    | none => simp only [h3] at h; cases h
    | some r3 =>
     simp only [h3, Option.bind_some] at h
     cases h4 : cut [10] r3 with
     | none => rw [h4] at h; cases h
     | some r4 =>
      rw [h4] at h
      simp only [Option.bind_some] at h
      cases h5 : valuesF 61 a true r4 with
      | none => rw [h5] at h; cases h
      | some q =>
       rw [h5] at h
       simp only [Option.bind_some] at h
       cases h6 : last q.2 with
       | none => rw [h6] at h; cases h
       | some z =>
        rw [h6] at h
        simp only [Option.bind_some] at h
        cases h7 : cut [10] z.2 with
        | none => rw [h7] at h; cases h
        | some r7 =>
         rw [h7] at h
         cases h
         exact BlockIs.mk h1 h2 h3 h4 (valuesF_sound _ _ _ _ _ h5) h6 h7
def blocksF : Nat → Nat → Nat → List UInt8 → Option (List Blk)
 | 0, _, _, _ => none
 | n + 1, a, k, s => if s = [] then some [] else (blockF a k s).bind fun p => (blocksF n a (k + 1) p.2).map fun q => p.1 :: q
theorem blocksF_sound : ∀ (n a k : Nat) (s : List UInt8) (o : List Blk), blocksF n a k s = some o → BlocksIs a k s o
 | 0, _, _, _, _, h => by cases h
 | n + 1, a, k, s, o, h => by
  unfold blocksF at h
  split at h
  ·rename_i hs
   subst hs
   cases h
   exact BlocksIs.nil
  ·rename_i hs
   cases hb : blockF a k s with
   | none => rw [hb] at h; cases h
   | some p =>
    rw [hb] at h
    simp only [Option.bind_some] at h
    cases hq : blocksF n a (k + 1) p.2 with
    | none => rw [hq] at h; cases h
    | some q =>
     rw [hq] at h
     cases h
     exact BlocksIs.cons hs (blockF_sound hb) (blocksF_sound n _ _ _ _ hq)
def fnF (s : List UInt8) : Option Fn :=
 (cut sFunc s).bind fun r1 => (below 5 r1).bind fun p => (cut [10] p.2).bind fun r3 => (blockF p.1 0 r3).bind fun b => (blocksF 9 p.1 1 b.2).map fun q => ⟨p.1, b.1 :: q⟩
theorem fnF_sound {s : List UInt8} {f : Fn} (h : fnF s = some f) : FnIs s f := by
 unfold fnF at h
 cases h1 : cut sFunc s with
 | none => rw [h1] at h; cases h
 | some r1 =>
  rw [h1] at h
  simp only [Option.bind_some] at h
  cases h2 : below 5 r1 with
  | none => rw [h2] at h; cases h
  | some p =>
   rw [h2] at h
   simp only [Option.bind_some] at h
   cases h3 : cut [10] p.2 with
   | none => rw [h3] at h; cases h
   | some r3 =>
    rw [h3] at h
    simp only [Option.bind_some] at h
    cases h4 : blockF p.1 0 r3 with
    | none => rw [h4] at h; cases h
    | some b =>
     rw [h4] at h
     simp only [Option.bind_some] at h
     cases h5 : blocksF 9 p.1 1 b.2 with
     | none => rw [h5] at h; cases h
     | some q =>
      rw [h5] at h
      cases h
      exact FnIs.mk h1 h2 h3 (blockF_sound h4) (blocksF_sound _ _ _ _ _ h5)
end Code
namespace Code
def noBlk : Blk := ⟨[], .ret 0⟩
theorem blk_getD (bks : List Blk) (j : Nat) (h : j < bks.length) : bks.getD j noBlk = bks[j] := by rw [List.getD_eq_getElem?_getD, List.getElem?_eq_getElem h]; rfl
def smallB (bks : List Blk) : Bool := bks.all fun b => decide (b.values.length ≤ 100000) && (b.values.all fun v => decide (v.num < 60) && decide ((useT v.thing).length ≤ 100000) && (useT v.thing).all fun x => decide (x < 60)) && decide ((useL b.last).length ≤ 100000) && (useL b.last).all fun x => decide (x < 60)
theorem smallB_sound {bks : List Blk} (h : smallB bks = true) : Small bks := by
 intro b hb
 have h1 := List.all_eq_true.1 h b hb
 simp only [Bool.and_eq_true, List.all_eq_true, decide_eq_true_eq] at h1
 exact ⟨h1.1.1.1, fun v hv => ⟨(h1.1.1.2 v hv).1.1, (h1.1.1.2 v hv).1.2, (h1.1.1.2 v hv).2⟩, h1.1.2, h1.2⟩
def onceB : List Bool → List Blk → Bool
 | _, [] => true
 | R, b :: r => decide (nums b.values).Nodup && ((nums b.values).all fun x => R.getD x false == false) && onceB (addAll R b.values) r
theorem onceB_sound : ∀ (bks : List Blk) (R : List Bool), onceB R bks = true → Once R bks
 | [], _, _ => trivial
 | b :: r, R, h => by
  simp only [onceB, Bool.and_eq_true, decide_eq_true_eq, List.all_eq_true, beq_iff_eq] at h
  exact ⟨⟨h.1.1, h.1.2⟩, onceB_sound r _ h.2⟩
def goesB (bks : List Blk) : Bool := bks.all fun b => (tg b.last).all fun t => decide (1 ≤ t) && decide (t < bks.length)
def phisB (bks : List Blk) : Bool := (List.range bks.length).all fun j => (bks.getD j noBlk).values.all fun v => match v.thing with
 | .phi of => decide (j ≠ 0) && decide (of.length = (edges bks).counts.getD j 0)
 | _ => true
theorem phisB_sound {bks : List Blk} (h : phisB bks = true) : PhisOk bks := by
 intro j hj v hv of ho
 have h1 := List.all_eq_true.1 h j (List.mem_range.2 hj)
 rw [blk_getD bks j hj] at h1
 have h2 := List.all_eq_true.1 h1 v hv
 rw [ho] at h2
 simp only [Bool.and_eq_true, decide_eq_true_eq] at h2
 exact h2
def valsB : List Bool → List Val → Bool
 | _, [] => true
 | R, v :: l => hasAll R (useT v.thing) && valsB (R.set v.num true) l
theorem valsB_sound : ∀ (l : List Val) (R : List Bool), valsB R l = true → ValsOk R l
 | [], _, _ => trivial
 | v :: l, R, h => by
  simp only [valsB, Bool.and_eq_true] at h
  exact ⟨h.1, valsB_sound l _ h.2⟩
def phisMadeB (vals : List Val) (place : Nat) (R : List Bool) : Bool := vals.all fun v => match v.thing with
 | .phi of => decide (place < of.length) && decide (of.getD place 0 < 60) && R.getD (of.getD place 0) false
 | _ => true
theorem phisMadeB_sound {vals : List Val} {place : Nat} {R : List Bool} (h : phisMadeB vals place R = true) : PhisMade vals place R := by
 intro v hv of ho
 have h1 := List.all_eq_true.1 h v hv
 rw [ho] at h1
 simp only [Bool.and_eq_true, decide_eq_true_eq] at h1
 obtain ⟨⟨h2, h3⟩, h4⟩ := h1
 have e : of.getD place 0 = of[place] := by rw [List.getD_eq_getElem?_getD, List.getElem?_eq_getElem h2]; rfl
 rw [e] at h3 h4
 exact ⟨h2, h3, h4⟩
def aheadB (bks : List Blk) (A : Sets) : Bool := (List.range bks.length).all fun j =>
 let b := bks.getD j noBlk
 let R := A.getD j []
 valsB R b.values && hasAll (addAll R b.values) (useL b.last) && (List.range (tg b.last).length).all fun k =>
  phisMadeB (bks.getD ((tg b.last).getD k 0) noBlk).values ((edges bks).places j k) (addAll R b.values)
theorem aheadB_sound {bks : List Blk} {A : Sets} (h : aheadB bks A = true) : AheadOk bks A := by
 intro j hj hA
 have h1 := List.all_eq_true.1 h j (List.mem_range.2 hj)
 simp only [blk_getD bks j hj, sets_get A j hA, Bool.and_eq_true] at h1
 refine ⟨valsB_sound _ _ h1.1.1, h1.1.2, fun k hk ht => ?_⟩
 have h2 := List.all_eq_true.1 h1.2 k (List.mem_range.2 hk)
 have e : (tg bks[j].last).getD k 0 = (tg bks[j].last)[k] := by rw [List.getD_eq_getElem?_getD, List.getElem?_eq_getElem hk]; rfl
 rw [e, blk_getD bks _ ht] at h2
 exact phisMadeB_sound h2
def iterF : Nat → List Blk → Sets → Option Sets
 | 0, _, _ => none
 | n + 1, bks, A => if (pass bks A).2 = true then iterF n bks (pass bks A).1 else some (pass bks A).1
theorem iterF_sound : ∀ (n : Nat) (bks : List Blk) (A B : Sets), iterF n bks A = some B → Iter bks A B
 | 0, _, _, _, h => by cases h
 | n + 1, bks, A, B, h => by
  unfold iterF at h
  split at h
  ·rename_i hc
   exact Iter.more hc (iterF_sound n _ _ _ h)
  ·rename_i hc
   cases h
   exact Iter.done (by simpa using hc)
def aheadAllB (bks : List Blk) : Bool := match iterF 20 bks (startTo bks.length bks.length) with
 | some A => aheadB bks A
 | none => false
def rightB (bks : List Blk) : Bool := decide (bks.length ≤ 8) && decide (0 < bks.length) && smallB bks && onceB noNumber bks && goesB bks && (reachF 9 (tgs bks) (List.replicate bks.length false) 0 == List.replicate bks.length true) && phisB bks && aheadAllB bks
theorem rightB_sound {bks : List Blk} (h : rightB bks = true) : Right bks := by
 simp only [rightB, Bool.and_eq_true, decide_eq_true_eq, beq_iff_eq] at h
 obtain ⟨⟨⟨⟨⟨⟨⟨h1, h2⟩, h3⟩, h4⟩, h5⟩, h6⟩, h7⟩, h8⟩ := h
 refine ⟨h1, h2, smallB_sound h3, onceB_sound _ _ h4, fun b hb t ht => ?_, h6, phisB_sound h7, fun A _ _ hA => ?_⟩
 ·have := List.all_eq_true.1 (List.all_eq_true.1 h5 b hb) t ht
  simpa using this
 ·unfold aheadAllB at h8
  split at h8
  ·rename_i B hB
   rw [hA.det (iterF_sound _ _ _ _ hB)]
   exact aheadB_sound h8
  ·cases h8
end Code
namespace Code
def textW1 : List UInt8 := [102, 117, 110, 99, 32, 49, 10, 98, 48, 58, 10, 118, 48, 32, 61, 32, 97, 114, 103, 32, 48, 10, 118, 49, 32, 61, 32, 99, 111, 110, 115, 116, 32, 56, 10, 118, 50, 32, 61, 32, 109, 117, 108, 32, 118, 48, 32, 118, 49, 10, 114, 101, 116, 32, 118, 50, 10]
def fnW1 : Fn := ⟨1, [⟨[⟨0, .arg 0⟩, ⟨1, .const 8⟩, ⟨2, .apply 2 [0, 1]⟩], .ret 2⟩]⟩
set_option maxRecDepth 100000 in
theorem isW1 : FnIs textW1 fnW1 := fnF_sound (by kernel_rfl)
set_option maxRecDepth 100000 in
theorem rightW1 : Right fnW1.blocks := rightB_sound (by kernel_rfl)
end Code
open Go.RowKit
open Go.Proofs.YtedkjanogjglkaaGreatDoor.Code (RTree Nm RSt Prs CRule Pair)
namespace Code
def rulesM : List UInt8 := [40, 109, 117, 108, 32, 120, 32, 56, 41, 32, 61, 62, 32, 40, 115, 104, 108, 32, 120, 32, 51, 41, 10]
def rules2 : List UInt8 := [40, 97, 100, 100, 32, 120, 32, 48, 41, 32, 61, 62, 32, 120, 10, 59, 32, 110, 111, 110, 101, 10, 40, 115, 117, 98, 32, 120, 32, 120, 41, 32, 61, 62, 32, 48, 10]
def rulesH : List UInt8 := [10, 40, 97, 100, 100, 32, 120, 32, 49, 41, 32, 61, 62, 32, 40, 115, 117, 98, 32, 120, 32, 45, 49, 41, 10]
def moved : List UInt8 := [102, 117, 110, 99, 32, 49, 10, 98, 48, 58, 10, 118, 48, 32, 61, 32, 97, 114, 103, 32, 48, 10, 118, 51, 32, 61, 32, 99, 111, 110, 115, 116, 32, 51, 10, 118, 50, 32, 61, 32, 115, 104, 108, 32, 118, 48, 32, 118, 51, 10, 114, 101, 116, 32, 118, 50, 10]
def x1 : List UInt8 := [120]
def ruleM : CRule := ⟨.op 2 [.name x1, .num 8], .op 7 [.name x1, .num 3], [(x1, false)]⟩
def fnM : List Blk := [⟨[⟨0, .arg 0⟩, ⟨3, .const 3⟩, ⟨2, .apply 7 [0, 3]⟩], .ret 2⟩]
end Code
theorem rulesAre_all (s : List UInt8) : ∃ o, RulesAre s o := by
 by_cases h : 3000 < s.length
 ·exact ⟨_, Or.inl ⟨h, rfl⟩⟩
 ·obtain ⟨o, ho⟩ := Code.rulesS_all s.length s 1 (Nat.le_refl _)
  exact ⟨o, Or.inr ⟨by omega, ho⟩⟩
theorem areM : RulesAre Code.rulesM (.ok [Code.ruleM]) := Or.inr ⟨by decide, Code.RulesS.more (o := .ok []) (by decide) (by decide) (by kernel_rfl) (by
 have e : Code.nextOf Code.rulesM = [] := by kernel_rfl
 rw [e]
 exact .done)⟩
theorem rewM : Code.RewS 1 [Code.ruleM] [] 0 Code.fnW1.blocks Code.fnM 1 0 :=
 .next (p := ⟨0, 2, Code.ruleM⟩) (by kernel_rfl) (by kernel_rfl) (.done (by kernel_rfl))
def Code.rule2a : CRule := ⟨.op 0 [.name Code.x1, .num 0], .name Code.x1, [(Code.x1, false)]⟩
def Code.rule2b : CRule := ⟨.op 1 [.name Code.x1, .name Code.x1], .num 0, [(Code.x1, false)]⟩
theorem are2 : RulesAre Code.rules2 (.ok [Code.rule2a, Code.rule2b]) := Or.inr ⟨by decide, Code.RulesS.more (o := .ok [Code.rule2b]) (by decide) (by decide) (by kernel_rfl) (by
 refine .idle (by decide) (by decide) ?_
 refine Code.RulesS.more (o := .ok []) (by decide) (by decide) (by kernel_rfl) ?_
 have e : Code.nextOf (Code.nextOf (Code.nextOf Code.rules2)) = [] := by kernel_rfl
 rw [e]
 exact .done)⟩
theorem areH : RulesAre Code.rulesH (.error (2, 8)) := Or.inr ⟨by decide, .idle (by decide) (by decide) (.bad (by decide) (by decide) (by kernel_rfl))⟩
theorem lineM : Code.lineS (Code.headOf Code.rulesM) = .ok (Code.ruleM.node, Code.ruleM.result, Code.ruleM.names) := by kernel_rfl
theorem inM : ∀ R ∈ [Code.ruleM], RuleIn R := by
 intro R hR
 simp only [List.mem_cons, List.not_mem_nil, or_false] at hR
 subst hR
 exact ⟨Code.lineS_rule lineM, by decide⟩
theorem niceW1 : Code.NiceB Code.fnW1.blocks := by
 refine ⟨by decide, by decide, ?_, ?_⟩
 ·simp [Code.fnW1, Code.NiceV, Code.NiceT]
  decide
 ·simp [Code.fnW1, Code.NiceL]
theorem niceM : Code.NiceB Code.fnM := by
 refine ⟨by decide, by decide, ?_, ?_⟩
 ·simp [Code.fnM, Code.NiceV, Code.NiceT]
  decide
 ·simp [Code.fnM, Code.NiceL]
theorem fineW1 : Code.Fine Code.fnW1.blocks := ⟨niceW1, by unfold Code.OnceN; decide⟩
theorem movedM : Code.wrF Code.fnW1.args Code.fnM = Code.moved := by kernel_rfl
theorem lawNum_any (n : Int) (w : World) : Calls Tryz.prog 13 #[.int .i64 n] w fun e w' => e = .returned (.int .i64 n) ∧ w' = w := by
 go_enter Tryz.func13, Tryz.ntmps13
 go_wp2
 go_ret
 exact ⟨rfl, rfl⟩
theorem noPicks (w : World) : IntsAt w (.slice none 0 0) [] := ⟨none, 0, rfl, fun j h => by simp at h⟩
theorem rewriteM (w : World) (hi : TabI w) (ht : Tab w) (hw : 0 < w.heap.size) : Calls Tryz.prog 16 #[.string (bs Code.rulesM), .string (bs Code.textW1), .slice none 0 0] w fun e w' => e = .returned (.tuple #[.string (bs Code.moved), .int .i64 1, .int .i64 0]) ∧ Below w.heap.size w w' := by
 have h := chiselRewrite_given Code.rulesM Code.textW1 [] [Code.ruleM] Code.fnW1 Code.fnM 1 0 (.slice none 0 0) w areM inM (by decide) (by decide) Code.isW1 Code.rightW1 fineW1 niceM (by decide) rewM (by decide) (noPicks w) (by simp) hi ht hw
 rw [movedM] at h
 exact h
theorem rules2_is (w : World) (ht : Tab w) (hw : 0 < w.heap.size) : Calls Tryz.prog 11 #[.string (bs Code.rules2)] w fun e w' => e = .returned (.tuple #[.int .i64 2, .int .i64 0, .int .i64 0]) ∧ Below w.heap.size w w' := by
 refine (rules_any Code.rules2 _ are2 w ht hw).mono ?_
 rintro e w' ⟨⟨rs, h, rfl⟩ | ⟨n, why, h, _⟩, hb⟩
 ·simp only [Except.ok.injEq] at h
  subst h
  exact ⟨rfl, hb⟩
 ·cases h
theorem rulesH_is (w : World) (ht : Tab w) (hw : 0 < w.heap.size) : Calls Tryz.prog 11 #[.string (bs Code.rulesH)] w fun e w' => e = .returned (.tuple #[.int .i64 0, .int .i64 2, .int .i64 8]) ∧ Below w.heap.size w w' := by
 refine (rules_any Code.rulesH _ areH w ht hw).mono ?_
 rintro e w' ⟨⟨rs, h, rfl⟩ | ⟨n, why, h, rfl⟩, hb⟩
 ·cases h
 ·simp only [Except.error.injEq, Prod.mk.injEq] at h
  obtain ⟨rfl, rfl⟩ := h
  exact ⟨rfl, hb⟩
set_option maxRecDepth 100000 in
set_option maxHeartbeats 4000000 in
theorem ruled_any (w : World) (hi : TabI w) (ht : Tab w) : Calls Tryz.prog 10 #[] w fun e w' => e = .returned (.bool true) ∧ Below w.heap.size w w' := by
 have hp := ht.pos
 have HR := hide (rewriteM w hi ht hp)
 have HT := hide ht
 have H2 : Hid (∀ w', Below w.heap.size w w' → Calls Tryz.prog 11 #[.string (bs Code.rules2)] w' fun e w'' => e = .returned (.tuple #[.int .i64 2, .int .i64 0, .int .i64 0]) ∧ Below w'.heap.size w' w'') := hide fun w' h => rules2_is w' (HT.out.below h) (by have := h.size; omega)
 have HH : Hid (∀ w', Below w.heap.size w w' → Calls Tryz.prog 11 #[.string (bs Code.rulesH)] w' fun e w'' => e = .returned (.tuple #[.int .i64 0, .int .i64 2, .int .i64 8]) ∧ Below w'.heap.size w' w'') := hide fun w' h => rulesH_is w' (HT.out.below h) (by have := h.size; omega)
 clear hi ht
 go_enter Tryz.func10, Tryz.ntmps10
 go_wp2_with fail
 refine HR.out.mono ?_
 rintro e w1 ⟨rfl, hb1⟩
 go_wp2_with fail
 refine (H2.out w1 hb1).mono ?_
 rintro e w2 ⟨rfl, hb2⟩
 have hbw2 : Below w.heap.size w w2 := hb1.trans (hb2.mono hb1.size)
 go_wp2_with fail
 refine (HH.out w2 hbw2).mono ?_
 rintro e w3 ⟨rfl, hb3⟩
 have hbw3 : Below w.heap.size w w3 := hbw2.trans (hb3.mono hbw2.size)
 have hq : ((bs Code.moved).toList == [102, 117, 110, 99, 32, 49, 10, 98, 48, 58, 10, 118, 48, 32, 61, 32, 97, 114, 103, 32, 48, 10, 118, 51, 32, 61, 32, 99, 111, 110, 115, 116, 32, 51, 10, 118, 50, 32, 61, 32, 115, 104, 108, 32, 118, 48, 32, 118, 51, 10, 114, 101, 116, 32, 118, 50, 10]) = true := by
  rw [ByteArray.toList_eq]
  kernel_rfl
 generalize bs Code.moved = mv at *
 go_wp2
 go_ret
 exact ⟨rfl, hbw3⟩
set_option maxHeartbeats 4000000 in
theorem ruledLaw_any (s : ByteArray) (w : World) (hi : TabI w) (ht : Tab w) : Calls Tryz.prog 3 #[.string s] w fun e w' => e = .returned (.bool true) ∧ Below w.heap.size w w' := by
 have hp := ht.pos
 have hs : s = bs (bl s) := (bs_bl s).symm
 generalize bl s = l at *
 subst hs
 obtain ⟨o, ho⟩ := rulesAre_all l
 have HR := hide (ruled_any w hi ht)
 have HC : Hid (∀ w', Below w.heap.size w w' → Calls Tryz.prog 11 #[.string (bs l)] w' fun e w'' => RulesPost o w' e w'') := hide fun w' h => rules_any l o ho w' (ht.below h) (by have := h.size; omega)
 have hD : ∃ o', (o.map fun l => l.map Code.bare) = o' ∧ ∀ w', Calls Tryz.prog 12 #[.string (bs l)] w' fun e w'' => D.RulesD o' w' e w'' := by
  rcases ho with ⟨h1, rfl⟩ | ⟨h1, h2⟩
  ·exact ⟨.error (0, 6), rfl, fun w' => D.rulesD_long l w' h1⟩
  ·obtain ⟨o', ho'⟩ := D.linesR_all (Ref.lines l).2 (Ref.lines l).1 1
   refine ⟨o', ?_, fun w' => D.rulesD_short l w' h1 o' ho'⟩
   exact Code.RulesOf.det h2.of (D.rulesOf_lines l.length l (Nat.le_refl _) 1 o' ho')
 obtain ⟨o', hoo, hD⟩ := hD
 have HD := hide hD
 have HOO := hide hoo
 clear ho hi ht hD hoo
 go_enter Tryz.func3, Tryz.ntmps3
 go_wp2_with fail
 refine HR.out.mono ?_
 rintro e w1 ⟨rfl, hb1⟩
 go_wp2_with fail
 refine (HC.out w1 hb1).mono ?_
 rintro e w2 ⟨hend, hb2⟩
 have hbw2 : Below w.heap.size w w2 := hb1.trans (hb2.mono hb1.size)
 rcases hend with ⟨rs, hor, rfl⟩ | ⟨n, why, hor, rfl⟩
 ·go_wp2_with fail
  refine (HD.out w2).mono ?_
  rintro e w3 ⟨hend, hb3⟩
  have hbw3 : Below w.heap.size w w3 := hbw2.trans (hb3.mono hbw2.size)
  rcases hend with ⟨rs', p, c, hor', rfl, _⟩ | ⟨n', er, hor', rfl⟩
  ·have hll : rs'.length = rs.length := by
    have h := HOO.out
    rw [hor, hor'] at h
    simp only [Except.map, Except.ok.injEq] at h
    rw [← h]; simp
   rw [hll]
   clear hor hor' hll
   go_wp2_with fail
   refine (lawNum_any _ w3).mono ?_
   rintro e w4 ⟨rfl, rfl⟩
   go_wp2
   go_ret
   exact ⟨rfl, hbw3⟩
  ·have h := HOO.out
   rw [hor, hor'] at h
   cases h
 ·go_wp2_with fail
  refine (HD.out w2).mono ?_
  rintro e w3 ⟨hend, hb3⟩
  have hbw3 : Below w.heap.size w w3 := hbw2.trans (hb3.mono hbw2.size)
  rcases hend with ⟨rs', p, c, hor', rfl, _⟩ | ⟨n', er, hor', rfl⟩
  ·have h := HOO.out
   rw [hor, hor'] at h
   cases h
  ·have h := HOO.out
   rw [hor, hor'] at h
   simp only [Except.map, Except.error.injEq, Prod.mk.injEq] at h
   obtain ⟨rfl, rfl⟩ := h
   clear hor hor'
   go_wp2_with fail
   refine (lawNum_any _ w3).mono ?_
   rintro e w4 ⟨rfl, rfl⟩
   go_wp2
   go_ret
   exact ⟨rfl, hbw3⟩
end Go.Proofs.YtedkjanogjglkaaGreatDoor
