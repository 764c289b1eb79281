/-
  Texts that are written out are read by reckoning.
  Functions that are written out are looked through by reckoning.
  The functions of the statements 'works' and 'Looped'.
  How the functions of 'works' and 'Looped' run.
  What the functions of 'works' and 'Looped' come to.
  Walks: chiselkeep.pick, works, Looped.
  Walks: chiselkeep.works, Looped.
  From what the program's text lays to the table of operations.
  What requireReached asks: each block can be come to; no walk.
-/
import Derived.Test.YtedkjanogjglkaaDoorP08
import Derived.KernelRfl
import Derived.Test.YtedkjanogjglkaaDoorTie
import Derived.ProofKit
import Derived.OpenShut
import Derived.Lay
import Derived.MakeChecks
import Derived.SevenTiedAt
import Derived.Stop.Joined
import Derived.Test.YtedkjanogjglkaaDoorP05

namespace Go.Proofs.YtedkjanogjglkaaDoor

namespace Code
def phiF : Nat → List UInt8 → Option (List Nat × List UInt8)
  | 0, _ => none
  | n + 1, s => match cut [32] s with
    | none => some ([], s)
    | some r => (value r).bind fun p => (phiF n p.2).map fun q => (p.1 :: q.1, q.2)

theorem phiF_sound : ∀ (n : Nat) (s : List UInt8) (o : List Nat × List UInt8), phiF n s = some o → PhiOf s (some o)
  | 0, _, _, h => by cases h
  | n + 1, s, o, h => by
    unfold phiF at h
    split at h
    · rename_i hc
      cases h
      exact PhiOf.done hc
    · rename_i r hc
      cases hv : value r with
      | none => rw [hv] at h; cases h
      | some p =>
        rw [hv] at h
        simp only [Option.bind_some] at h
        cases hq : phiF n p.2 with
        | none => rw [hq] at h; cases h
        | some q =>
          rw [hq] at h
          cases h
          exact PhiOf.more hc hv (phiF_sound n _ _ hq)

def thingF (n a : Nat) (s : List UInt8) : Option (Thing × List UInt8) :=
  if word s = sPhi then (phiF n (behind s)).map fun p => (.phi p.1, p.2)
  else if word s = sArg then (cut [32] (behind s)).bind fun r => (below a r).map fun p => (.arg p.1, p.2)
  else if word s = sConst then (cut [32] (behind s)).bind fun r => (signed r).map fun p => (.const p.1, p.2)
  else apply (word s) (behind s)

theorem thingF_sound {n a : Nat} {s : List UInt8} {o : Thing × List UInt8} (h : thingF n a s = some o) : ThingOf a s (some o) := by
  unfold thingF at h
  split at h
  · rename_i h1
    cases hp : phiF n (behind s) with
    | none => rw [hp] at h; cases h
    | some q =>
      rw [hp] at h
      cases h
      exact ThingOf.phi h1 (phiF_sound _ _ _ hp)
  · rename_i h1
    split at h
    · rename_i h2
      rw [← h]
      exact ThingOf.arg h2
    · rename_i h2
      split at h
      · rename_i h3
        rw [← h]
        exact ThingOf.const h3
      · rename_i h3
        rw [← h]
        exact ThingOf.apply h1 h2 h3

def valuesF : Nat → Nat → Bool → List UInt8 → Option (List Val × List UInt8)
  | 0, _, _, _ => none
  | n + 1, a, b, s => match cut [118] s with
    | none => some ([], s)
    | some _ => (value s).bind fun p => (cut [32, 61, 32] p.2).bind fun u => (thingF 60 a u).bind fun y =>
      if y.1.isPhi = true ∧ b = false then none else (cut [10] y.2).bind fun z => (valuesF n a y.1.isPhi z).map fun q => (⟨p.1, y.1⟩ :: q.1, q.2)

theorem valuesF_sound : ∀ (n a : Nat) (b : Bool) (s : List UInt8) (o : List Val × List UInt8), valuesF n a b s = some o → ValuesOf a b s (some o)
  | 0, _, _, _, _, h => by cases h
  | n + 1, a, b, s, o, h => by
    unfold valuesF at h
    split at h
    · rename_i hc
      cases h
      exact ValuesOf.done hc
    · rename_i r hc
      cases hv : value s with
      | none => rw [hv] at h; cases h
      | some p =>
        rw [hv] at h
        simp only [Option.bind_some] at h
        cases hu : cut [32, 61, 32] p.2 with
        | none => rw [hu] at h; cases h
        | some u =>
          rw [hu] at h
          simp only [Option.bind_some] at h
          cases hy : thingF 60 a u with
          | none => rw [hy] at h; cases h
          | some y =>
            rw [hy] at h
            simp only [Option.bind_some] at h
            split at h
            · cases h
            · rename_i hph
              cases hz : cut [10] y.2 with
              | none => rw [hz] at h; cases h
              | some z =>
                rw [hz] at h
                simp only [Option.bind_some] at h
                cases hq : valuesF n a y.1.isPhi z with
                | none => rw [hq] at h; cases h
                | some q =>
                  rw [hq] at h
                  cases h
                  refine ValuesOf.more hc hv hu (thingF_sound hy) (fun hp => ?_) hz (valuesF_sound n _ _ _ _ hq)
                  cases b
                  · exact absurd ⟨hp, rfl⟩ hph
                  · rfl

def blockF (a num : Nat) (s : List UInt8) : Option (Blk × List UInt8) :=
  (cut [98] s).bind fun r1 => (below 8 r1).bind fun p => if p.1 ≠ num then none else (cut [58] p.2).bind fun r3 => (cut [10] r3).bind fun r4 => (valuesF 61 a true r4).bind fun q => (last q.2).bind fun z => (cut [10] z.2).map fun r7 => (⟨q.1, z.1⟩, r7)

theorem blockF_sound {a num : Nat} {s t : List UInt8} {b : Blk} (h : blockF a num s = some (b, t)) : BlockIs a num s b t := by
  unfold blockF at h
  cases h1 : cut [98] s with
  | none => rw [h1] at h; cases h
  | some r1 =>
    rw [h1] at h
    simp only [Option.bind_some] at h
    cases h2 : below 8 r1 with
    | none => rw [h2] at h; cases h
    | some p =>
      rw [h2] at h
      simp only [Option.bind_some] at h
      split at h
      · cases h
      · rename_i hn
        have hn' : p.1 = num := Classical.byContradiction hn
        obtain ⟨m, r2⟩ := p
        subst hn'
        cases h3 : cut [58] r2 with
        | none => simp only [h3] at h; cases h
        | some r3 =>
          simp only [h3, Option.bind_some] at h
          cases h4 : cut [10] r3 with
          | none => rw [h4] at h; cases h
          | some r4 =>
            rw [h4] at h
            simp only [Option.bind_some] at h
            cases h5 : valuesF 61 a true r4 with
            | none => rw [h5] at h; cases h
            | some q =>
              rw [h5] at h
              simp only [Option.bind_some] at h
              cases h6 : last q.2 with
              | none => rw [h6] at h; cases h
              | some z =>
                rw [h6] at h
                simp only [Option.bind_some] at h
                cases h7 : cut [10] z.2 with
                | none => rw [h7] at h; cases h
                | some r7 =>
                  rw [h7] at h
                  cases h
                  exact BlockIs.mk h1 h2 h3 h4 (valuesF_sound _ _ _ _ _ h5) h6 h7

def blocksF : Nat → Nat → Nat → List UInt8 → Option (List Blk)
  | 0, _, _, _ => none
  | n + 1, a, k, s => if s = [] then some [] else (blockF a k s).bind fun p => (blocksF n a (k + 1) p.2).map fun q => p.1 :: q

theorem blocksF_sound : ∀ (n a k : Nat) (s : List UInt8) (o : List Blk), blocksF n a k s = some o → BlocksIs a k s o
  | 0, _, _, _, _, h => by cases h
  | n + 1, a, k, s, o, h => by
    unfold blocksF at h
    split at h
    · rename_i hs
      subst hs
      cases h
      exact BlocksIs.nil
    · rename_i hs
      cases hb : blockF a k s with
      | none => rw [hb] at h; cases h
      | some p =>
        rw [hb] at h
        simp only [Option.bind_some] at h
        cases hq : blocksF n a (k + 1) p.2 with
        | none => rw [hq] at h; cases h
        | some q =>
          rw [hq] at h
          cases h
          exact BlocksIs.cons hs (blockF_sound hb) (blocksF_sound n _ _ _ _ hq)

def fnF (s : List UInt8) : Option Fn :=
  (cut sFunc s).bind fun r1 => (below 5 r1).bind fun p => (cut [10] p.2).bind fun r3 => (blockF p.1 0 r3).bind fun b => (blocksF 9 p.1 1 b.2).map fun q => ⟨p.1, b.1 :: q⟩

theorem fnF_sound {s : List UInt8} {f : Fn} (h : fnF s = some f) : FnIs s f := by
  unfold fnF at h
  cases h1 : cut sFunc s with
  | none => rw [h1] at h; cases h
  | some r1 =>
    rw [h1] at h
    simp only [Option.bind_some] at h
    cases h2 : below 5 r1 with
    | none => rw [h2] at h; cases h
    | some p =>
      rw [h2] at h
      simp only [Option.bind_some] at h
      cases h3 : cut [10] p.2 with
      | none => rw [h3] at h; cases h
      | some r3 =>
        rw [h3] at h
        simp only [Option.bind_some] at h
        cases h4 : blockF p.1 0 r3 with
        | none => rw [h4] at h; cases h
        | some b =>
          rw [h4] at h
          simp only [Option.bind_some] at h
          cases h5 : blocksF 9 p.1 1 b.2 with
          | none => rw [h5] at h; cases h
          | some q =>
            rw [h5] at h
            cases h
            exact FnIs.mk h1 h2 h3 (blockF_sound h4) (blocksF_sound _ _ _ _ _ h5)
end Code
end Go.Proofs.YtedkjanogjglkaaDoor


namespace Go.Proofs.YtedkjanogjglkaaDoor

namespace Code
def noBlk : Blk := ⟨[], .ret 0⟩

theorem blk_getD (bks : List Blk) (j : Nat) (h : j < bks.length) : bks.getD j noBlk = bks[j] := by rw [List.getD_eq_getElem?_getD, List.getElem?_eq_getElem h]; rfl

def smallB (bks : List Blk) : Bool := bks.all fun b => decide (b.values.length ≤ 100000) && (b.values.all fun v => decide (v.num < 60) && decide ((useT v.thing).length ≤ 100000) && (useT v.thing).all fun x => decide (x < 60)) && decide ((useL b.last).length ≤ 100000) && (useL b.last).all fun x => decide (x < 60)

theorem smallB_sound {bks : List Blk} (h : smallB bks = true) : Small bks := by
  intro b hb
  have h1 := List.all_eq_true.1 h b hb
  simp only [Bool.and_eq_true, List.all_eq_true, decide_eq_true_eq] at h1
  exact ⟨h1.1.1.1, fun v hv => ⟨(h1.1.1.2 v hv).1.1, (h1.1.1.2 v hv).1.2, (h1.1.1.2 v hv).2⟩, h1.1.2, h1.2⟩

def onceB : List Bool → List Blk → Bool
  | _, [] => true
  | R, b :: r => decide (nums b.values).Nodup && ((nums b.values).all fun x => R.getD x false == false) && onceB (addAll R b.values) r

theorem onceB_sound : ∀ (bks : List Blk) (R : List Bool), onceB R bks = true → Once R bks
  | [], _, _ => trivial
  | b :: r, R, h => by
    simp only [onceB, Bool.and_eq_true, decide_eq_true_eq, List.all_eq_true, beq_iff_eq] at h
    exact ⟨⟨h.1.1, h.1.2⟩, onceB_sound r _ h.2⟩

def goesB (bks : List Blk) : Bool := bks.all fun b => (tg b.last).all fun t => decide (1 ≤ t) && decide (t < bks.length)

def phisB (bks : List Blk) : Bool := (List.range bks.length).all fun j => (bks.getD j noBlk).values.all fun v => match v.thing with
  | .phi of => decide (j ≠ 0) && decide (of.length = (edges bks).counts.getD j 0)
  | _ => true

theorem phisB_sound {bks : List Blk} (h : phisB bks = true) : PhisOk bks := by
  intro j hj v hv of ho
  have h1 := List.all_eq_true.1 h j (List.mem_range.2 hj)
  rw [blk_getD bks j hj] at h1
  have h2 := List.all_eq_true.1 h1 v hv
  rw [ho] at h2
  simp only [Bool.and_eq_true, decide_eq_true_eq] at h2
  exact h2

def valsB : List Bool → List Val → Bool
  | _, [] => true
  | R, v :: l => hasAll R (useT v.thing) && valsB (R.set v.num true) l

theorem valsB_sound : ∀ (l : List Val) (R : List Bool), valsB R l = true → ValsOk R l
  | [], _, _ => trivial
  | v :: l, R, h => by
    simp only [valsB, Bool.and_eq_true] at h
    exact ⟨h.1, valsB_sound l _ h.2⟩

def phisMadeB (vals : List Val) (place : Nat) (R : List Bool) : Bool := vals.all fun v => match v.thing with
  | .phi of => decide (place < of.length) && decide (of.getD place 0 < 60) && R.getD (of.getD place 0) false
  | _ => true

theorem phisMadeB_sound {vals : List Val} {place : Nat} {R : List Bool} (h : phisMadeB vals place R = true) : PhisMade vals place R := by
  intro v hv of ho
  have h1 := List.all_eq_true.1 h v hv
  rw [ho] at h1
  simp only [Bool.and_eq_true, decide_eq_true_eq] at h1
  obtain ⟨⟨h2, h3⟩, h4⟩ := h1
  have e : of.getD place 0 = of[place] := by rw [List.getD_eq_getElem?_getD, List.getElem?_eq_getElem h2]; rfl
  rw [e] at h3 h4
  exact ⟨h2, h3, h4⟩

def aheadB (bks : List Blk) (A : Sets) : Bool := (List.range bks.length).all fun j =>
  let b := bks.getD j noBlk
  let R := A.getD j []
  valsB R b.values && hasAll (addAll R b.values) (useL b.last) && (List.range (tg b.last).length).all fun k =>
    phisMadeB (bks.getD ((tg b.last).getD k 0) noBlk).values ((edges bks).places j k) (addAll R b.values)

theorem aheadB_sound {bks : List Blk} {A : Sets} (h : aheadB bks A = true) : AheadOk bks A := by
  intro j hj hA
  have h1 := List.all_eq_true.1 h j (List.mem_range.2 hj)
  simp only [blk_getD bks j hj, sets_get A j hA, Bool.and_eq_true] at h1
  refine ⟨valsB_sound _ _ h1.1.1, h1.1.2, fun k hk ht => ?_⟩
  have h2 := List.all_eq_true.1 h1.2 k (List.mem_range.2 hk)
  have e : (tg bks[j].last).getD k 0 = (tg bks[j].last)[k] := by rw [List.getD_eq_getElem?_getD, List.getElem?_eq_getElem hk]; rfl
  rw [e, blk_getD bks _ ht] at h2
  exact phisMadeB_sound h2

def iterF : Nat → List Blk → Sets → Option Sets
  | 0, _, _ => none
  | n + 1, bks, A => if (pass bks A).2 = true then iterF n bks (pass bks A).1 else some (pass bks A).1

theorem iterF_sound : ∀ (n : Nat) (bks : List Blk) (A B : Sets), iterF n bks A = some B → Iter bks A B
  | 0, _, _, _, h => by cases h
  | n + 1, bks, A, B, h => by
    unfold iterF at h
    split at h
    · rename_i hc
      exact Iter.more hc (iterF_sound n _ _ _ h)
    · rename_i hc
      cases h
      exact Iter.done (by simpa using hc)

def aheadAllB (bks : List Blk) : Bool := match iterF 20 bks (startTo bks.length bks.length) with
  | some A => aheadB bks A
  | none => false

def rightB (bks : List Blk) : Bool := decide (bks.length ≤ 8) && decide (0 < bks.length) && smallB bks && onceB noNumber bks && goesB bks && (reachF 9 (tgs bks) (List.replicate bks.length false) 0 == List.replicate bks.length true) && phisB bks && aheadAllB bks

theorem rightB_sound {bks : List Blk} (h : rightB bks = true) : Right bks := by
  simp only [rightB, Bool.and_eq_true, decide_eq_true_eq, beq_iff_eq] at h
  obtain ⟨⟨⟨⟨⟨⟨⟨h1, h2⟩, h3⟩, h4⟩, h5⟩, h6⟩, h7⟩, h8⟩ := h
  refine ⟨h1, h2, smallB_sound h3, onceB_sound _ _ h4, fun b hb t ht => ?_, h6, phisB_sound h7, fun A _ _ hA => ?_⟩
  · have := List.all_eq_true.1 (List.all_eq_true.1 h5 b hb) t ht
    simpa using this
  · unfold aheadAllB at h8
    split at h8
    · rename_i B hB
      rw [hA.det (iterF_sound _ _ _ _ hB)]
      exact aheadB_sound h8
    · cases h8

def fitsB (n place : Nat) (v : Val) : Bool := decide (v.num < 60) && match v.thing with
  | .phi of => decide (place < of.length) && decide (of.getD place 0 < 60)
  | .arg m => decide (m < n)
  | .const m => decide (-2147483648 ≤ m) && decide (m < 2147483648)
  | .apply k of => decide (k < 13) && decide (0 < of.length) && decide (of.length ≤ 100000) && of.all fun x => decide (x < 60)

theorem fitsB_sound {args : List Int} {place : Nat} {v : Val} (h : fitsB args.length place v = true) : Fits args place v := by
  obtain ⟨x, y⟩ := v
  simp only [fitsB, Bool.and_eq_true, decide_eq_true_eq] at h
  refine ⟨h.1, ?_⟩
  cases y with
  | phi of =>
    have h2 := h.2
    simp only [Bool.and_eq_true, decide_eq_true_eq] at h2
    obtain ⟨h3, h4⟩ := h2
    rw [List.getD_eq_getElem?_getD, List.getElem?_eq_getElem h3, Option.getD_some] at h4
    exact ⟨h3, h4⟩
  | arg m => simpa using h.2
  | const m => simpa using h.2
  | apply k of =>
    have h2 := h.2
    simp only [Bool.and_eq_true, decide_eq_true_eq, List.all_eq_true] at h2
    exact ⟨h2.1.1.1, h2.1.1.2, h2.1.2, h2.2⟩

def runsB (n : Nat) (bks : List Blk) : Bool := ((bks.getD 0 noBlk).values.all fun v => fitsB n 0 v) && (List.range bks.length).all fun j => (List.range (tg (bks.getD j noBlk).last).length).all fun k =>
  (bks.getD ((tg (bks.getD j noBlk).last).getD k 0) noBlk).values.all fun v => fitsB n ((edges bks).places j k) v

theorem runsB_sound {args : List Int} {bks : List Blk} (hr : Right bks) (h : runsB args.length bks = true) : Runs args bks := by
  simp only [runsB, Bool.and_eq_true] at h
  refine ⟨hr.most, hr.some, fun b hb => (hr.small b hb).1, fun b hb t ht => (hr.goes b hb t ht).2, fun b hb => (hr.small b hb).2.2.2, fun h0 v hv => ?_, fun j hj k hk ht v hv => ?_⟩
  · have h1 := h.1
    rw [blk_getD bks 0 h0] at h1
    exact fitsB_sound (List.all_eq_true.1 h1 v hv)
  · have h1 := List.all_eq_true.1 h.2 j (List.mem_range.2 hj)
    rw [blk_getD bks j hj] at h1
    have h2 := List.all_eq_true.1 h1 k (List.mem_range.2 hk)
    have e : (tg bks[j].last).getD k 0 = (tg bks[j].last)[k] := by rw [List.getD_eq_getElem?_getD, List.getElem?_eq_getElem hk]; rfl
    rw [e, blk_getD bks _ ht] at h2
    exact fitsB_sound (List.all_eq_true.1 h2 v hv)
end Code
end Go.Proofs.YtedkjanogjglkaaDoor


namespace Go.Proofs.YtedkjanogjglkaaDoor
namespace Code

def textW1 : List UInt8 := [102, 117, 110, 99, 32, 49, 10, 98, 48, 58, 10, 118, 48, 32, 61, 32, 97, 114, 103, 32, 48, 10, 118, 49, 32, 61, 32, 99, 111, 110, 115, 116, 32, 56, 10, 118, 50, 32, 61, 32, 109, 117, 108, 32, 118, 48, 32, 118, 49, 10, 114, 101, 116, 32, 118, 50, 10]
def fnW1 : Fn := ⟨1, [⟨[⟨0, .arg 0⟩, ⟨1, .const 8⟩, ⟨2, .apply 2 [0, 1]⟩], .ret 2⟩]⟩
set_option maxRecDepth 100000 in
theorem isW1 : FnIs textW1 fnW1 := fnF_sound (by kernel_rfl)
set_option maxRecDepth 100000 in
theorem rightW1 : Right fnW1.blocks := rightB_sound (by kernel_rfl)
set_option maxRecDepth 100000 in
theorem runsW1 (args : List Int) (h : args.length = 1) : Runs args fnW1.blocks := runsB_sound rightW1 (by rw [h]; kernel_rfl)

def textW2 : List UInt8 := [102, 117, 110, 99, 32, 48, 10, 98, 48, 58, 10, 118, 48, 32, 61, 32, 99, 111, 110, 115, 116, 32, 48, 10, 118, 49, 32, 61, 32, 100, 105, 118, 32, 118, 48, 32, 118, 48, 10, 114, 101, 116, 32, 118, 49, 10]
def fnW2 : Fn := ⟨0, [⟨[⟨0, .const 0⟩, ⟨1, .apply 3 [0, 0]⟩], .ret 1⟩]⟩
set_option maxRecDepth 100000 in
theorem isW2 : FnIs textW2 fnW2 := fnF_sound (by kernel_rfl)
set_option maxRecDepth 100000 in
theorem rightW2 : Right fnW2.blocks := rightB_sound (by kernel_rfl)
set_option maxRecDepth 100000 in
theorem runsW2 (args : List Int) (h : args.length = 0) : Runs args fnW2.blocks := runsB_sound rightW2 (by rw [h]; kernel_rfl)

def textL1 : List UInt8 := [102, 117, 110, 99, 32, 49, 10, 98, 48, 58, 10, 118, 48, 32, 61, 32, 97, 114, 103, 32, 48, 10, 118, 49, 32, 61, 32, 99, 111, 110, 115, 116, 32, 48, 10, 118, 50, 32, 61, 32, 99, 111, 110, 115, 116, 32, 45, 49, 10, 106, 117, 109, 112, 32, 98, 49, 10, 98, 49, 58, 10, 118, 51, 32, 61, 32, 112, 104, 105, 32, 118, 48, 32, 118, 53, 10, 118, 52, 32, 61, 32, 112, 104, 105, 32, 118, 49, 32, 118, 54, 10, 105, 102, 32, 118, 51, 32, 98, 50, 32, 98, 51, 10, 98, 50, 58, 10, 118, 53, 32, 61, 32, 97, 100, 100, 32, 118, 51, 32, 118, 50, 10, 118, 54, 32, 61, 32, 97, 100, 100, 32, 118, 52, 32, 118, 51, 10, 106, 117, 109, 112, 32, 98, 49, 10, 98, 51, 58, 10, 114, 101, 116, 32, 118, 52, 10]
def fnL1 : Fn := ⟨1, [⟨[⟨0, .arg 0⟩, ⟨1, .const 0⟩, ⟨2, .const (-1)⟩], .jump 1⟩, ⟨[⟨3, .phi [0, 5]⟩, ⟨4, .phi [1, 6]⟩], .ifs 3 2 3⟩, ⟨[⟨5, .apply 0 [3, 2]⟩, ⟨6, .apply 0 [4, 3]⟩], .jump 1⟩, ⟨[], .ret 4⟩]⟩
set_option maxRecDepth 100000 in
theorem isL1 : FnIs textL1 fnL1 := fnF_sound (by kernel_rfl)
set_option maxRecDepth 100000 in
theorem rightL1 : Right fnL1.blocks := rightB_sound (by kernel_rfl)
set_option maxRecDepth 100000 in
theorem runsL1 (args : List Int) (h : args.length = 1) : Runs args fnL1.blocks := runsB_sound rightL1 (by rw [h]; kernel_rfl)

def textL2 : List UInt8 := [102, 117, 110, 99, 32, 49, 10, 98, 48, 58, 10, 118, 48, 32, 61, 32, 97, 114, 103, 32, 48, 10, 118, 49, 32, 61, 32, 99, 111, 110, 115, 116, 32, 55, 10, 118, 50, 32, 61, 32, 99, 111, 110, 115, 116, 32, 57, 10, 118, 56, 32, 61, 32, 99, 111, 110, 115, 116, 32, 45, 49, 10, 106, 117, 109, 112, 32, 98, 49, 10, 98, 49, 58, 10, 118, 51, 32, 61, 32, 112, 104, 105, 32, 118, 48, 32, 118, 54, 10, 118, 52, 32, 61, 32, 112, 104, 105, 32, 118, 49, 32, 118, 53, 10, 118, 53, 32, 61, 32, 112, 104, 105, 32, 118, 50, 32, 118, 52, 10, 105, 102, 32, 118, 51, 32, 98, 50, 32, 98, 51, 10, 98, 50, 58, 10, 118, 54, 32, 61, 32, 97, 100, 100, 32, 118, 51, 32, 118, 56, 10, 106, 117, 109, 112, 32, 98, 49, 10, 98, 51, 58, 10, 114, 101, 116, 32, 118, 52, 10]
def fnL2 : Fn := ⟨1, [⟨[⟨0, .arg 0⟩, ⟨1, .const 7⟩, ⟨2, .const 9⟩, ⟨8, .const (-1)⟩], .jump 1⟩, ⟨[⟨3, .phi [0, 6]⟩, ⟨4, .phi [1, 5]⟩, ⟨5, .phi [2, 4]⟩], .ifs 3 2 3⟩, ⟨[⟨6, .apply 0 [3, 8]⟩], .jump 1⟩, ⟨[], .ret 4⟩]⟩
set_option maxRecDepth 100000 in
theorem isL2 : FnIs textL2 fnL2 := fnF_sound (by kernel_rfl)
set_option maxRecDepth 100000 in
theorem rightL2 : Right fnL2.blocks := rightB_sound (by kernel_rfl)
set_option maxRecDepth 100000 in
theorem runsL2 (args : List Int) (h : args.length = 1) : Runs args fnL2.blocks := runsB_sound rightL2 (by rw [h]; kernel_rfl)
end Code
end Go.Proofs.YtedkjanogjglkaaDoor


namespace Go.Proofs.YtedkjanogjglkaaDoor
open Go.RowKit
namespace Code

theorem Ends.det {args : List Int} {bks : List Blk} {fu at_ place : Nat} {V : List Int} {st : Nat} {r : Int} {n : Nat} {e : Int} {r' : Int} {n' : Nat} {e' : Int}
    (h : Ends args bks fu at_ place V st r n e) (h' : Ends args bks fu at_ place V st r' n' e') : r = r' ∧ n = n' ∧ e = e' := by
  induction h generalizing r' n' e' with
  | fuelV h1 h2 => cases h' <;> simp_all
  | trap h1 h2 => cases h' <;> simp_all
  | fuelL h1 h2 h3 => cases h' <;> simp_all <;> omega
  | ret h1 h2 h3 h4 => cases h' <;> simp_all <;> omega
  | jump h1 h2 h3 h4 h5 ih => cases h' <;> simp_all <;> first | omega | exact ih (by assumption)
  | yes h1 h2 h3 h4 h5 h6 ih => cases h' <;> simp_all <;> first | omega | exact ih (by assumption)
  | no h1 h2 h3 h4 h5 h6 ih => cases h' <;> simp_all <;> first | omega | exact ih (by assumption)

theorem gs_eq (V : List Int) (x : Nat) (n : Int) (h : x < V.length) : (V.set x n).getD x 0 = n := by
  rw [List.getD_eq_getElem?_getD, List.getElem?_set_self h]; rfl

theorem gs_ne (V : List Int) (x y : Nat) (n : Int) (h : x ≠ y) : (V.set x n).getD y 0 = V.getD y 0 := by
  rw [List.getD_eq_getElem?_getD, List.getD_eq_getElem?_getD, List.getElem?_set_ne h]

theorem wrap_in (x : Int) (h : -2147483648 ≤ x) (h' : x < 2147483648) : wrap32 x = x := by unfold wrap32; omega

theorem places1 : (edges fnL1.blocks).places 0 0 = 0 ∧ (edges fnL1.blocks).places 1 0 = 0 ∧ (edges fnL1.blocks).places 1 1 = 0 ∧ (edges fnL1.blocks).places 2 0 = 1 := ⟨by decide, by decide, by decide, by decide⟩
theorem places2 : (edges fnL2.blocks).places 0 0 = 0 ∧ (edges fnL2.blocks).places 1 0 = 0 ∧ (edges fnL2.blocks).places 1 1 = 0 ∧ (edges fnL2.blocks).places 2 0 = 1 := ⟨by decide, by decide, by decide, by decide⟩

/-- The sum 1 + .. + i. -/
def tri : Nat → Int
  | 0 => 0
  | i + 1 => tri i + (i + 1)

theorem tri_le : ∀ i : Nat, 0 ≤ tri i ∧ tri i ≤ 1000 * i → i ≤ 1000 → True := fun _ _ _ => trivial

theorem loop1 (args : List Int) : ∀ (i : Nat) (s : Int) (V : List Int) (st place : Nat), V.length = 60 → V.getD 2 0 = -1 → V.getD (([0, 5] : List Nat).getD place 0) 0 = i → V.getD (([1, 6] : List Nat).getD place 0) 0 = s → i ≤ 1000 → 0 ≤ s → s + 1000 * i ≤ 1100000 → st + 6 * i + 4 ≤ 100000 →
    Ends args fnL1.blocks 100000 1 place V st (s + tri i) (st + 6 * i + 4) 0 := by
  intro i
  induction i with
  | zero =>
    intro s V st place hV h2 hi hs _ _ _ hst
    have hrv : runVals args V place 100000 [⟨3, .phi [0, 5]⟩, ⟨4, .phi [1, 6]⟩] V st = .ok ((V.set 3 0).set 4 s) (st + 1 + 1) := by
      rw [runVals_on (n := 0) (by omega) (by simp only [comes]; rw [hi]; rfl), runVals_on (n := s) (by omega) (by simp only [comes]; rw [hs])]
      rfl
    refine Ends.no (b := ⟨[⟨3, .phi [0, 5]⟩, ⟨4, .phi [1, 6]⟩], .ifs 3 2 3⟩) rfl hrv (by omega) rfl (by rw [gs_ne _ _ _ _ (by omega), gs_eq _ _ _ (by omega)]) ?_
    have hfin : Ends args fnL1.blocks 100000 3 ((edges fnL1.blocks).places 1 1) ((V.set 3 0).set 4 s) (st + 1 + 1 + 1) (((V.set 3 0).set 4 s).getD 4 0) (st + 1 + 1 + 1 + 1) 0 := Ends.ret (b := ⟨[], .ret 4⟩) rfl rfl (by omega) rfl
    rw [gs_eq _ _ _ (by simp; omega)] at hfin
    simpa [tri] using hfin
  | succ i ih =>
    intro s V st place hV h2 hi hs hil hs0 hsb hst
    have hrv : runVals args V place 100000 [⟨3, .phi [0, 5]⟩, ⟨4, .phi [1, 6]⟩] V st = .ok ((V.set 3 ((i + 1 : Nat) : Int)).set 4 s) (st + 1 + 1) := by
      rw [runVals_on (n := ((i + 1 : Nat) : Int)) (by omega) (by simp only [comes]; rw [hi]), runVals_on (n := s) (by omega) (by simp only [comes]; rw [hs])]
      rfl
    refine Ends.yes (b := ⟨[⟨3, .phi [0, 5]⟩, ⟨4, .phi [1, 6]⟩], .ifs 3 2 3⟩) rfl hrv (by omega) rfl (by rw [gs_ne _ _ _ _ (by omega), gs_eq _ _ _ (by omega)]; omega) ?_
    have hV' : ((V.set 3 ((i + 1 : Nat) : Int)).set 4 s).length = 60 := by simp [hV]
    have e3 : ((V.set 3 ((i + 1 : Nat) : Int)).set 4 s).getD 3 0 = ((i + 1 : Nat) : Int) := by rw [gs_ne _ _ _ _ (by omega), gs_eq _ _ _ (by omega)]
    have e4 : ((V.set 3 ((i + 1 : Nat) : Int)).set 4 s).getD 4 0 = s := by rw [gs_eq _ _ _ (by simp; omega)]
    have e2 : ((V.set 3 ((i + 1 : Nat) : Int)).set 4 s).getD 2 0 = -1 := by rw [gs_ne _ _ _ _ (by omega), gs_ne _ _ _ _ (by omega)]; exact h2
    generalize (V.set 3 ((i + 1 : Nat) : Int)).set 4 s = W at *
    rw [places1.2.1]
    have hrw : runVals args W 0 100000 [⟨5, .apply 0 [3, 2]⟩, ⟨6, .apply 0 [4, 3]⟩] W (st + 1 + 1 + 1) = .ok ((W.set 5 (i : Int)).set 6 (s + ((i + 1 : Nat) : Int))) (st + 1 + 1 + 1 + 1 + 1) := by
      have c1 : comes args W W 0 (.apply 0 [3, 2]) = some (i : Int) := by
        show some (wrap32 (W.getD 3 0 + W.getD 2 0)) = _
        rw [e3, e2, wrap_in _ (by omega) (by omega)]
        congr 1; omega
      have c2 : comes args W (W.set 5 (i : Int)) 0 (.apply 0 [4, 3]) = some (s + ((i + 1 : Nat) : Int)) := by
        show some (wrap32 ((W.set 5 (i : Int)).getD 4 0 + (W.set 5 (i : Int)).getD 3 0)) = _
        rw [gs_ne _ _ _ _ (by omega), gs_ne _ _ _ _ (by omega), e4, e3, wrap_in _ (by omega) (by omega)]
      rw [runVals_on (by omega) c1, runVals_on (by omega) c2]
      rfl
    refine Ends.jump (b := ⟨[⟨5, .apply 0 [3, 2]⟩, ⟨6, .apply 0 [4, 3]⟩], .jump 1⟩) rfl hrw (by omega) rfl ?_
    rw [places1.2.2.2]
    have hh := ih (s + ((i + 1 : Nat) : Int)) ((W.set 5 (i : Int)).set 6 (s + ((i + 1 : Nat) : Int))) (st + 1 + 1 + 1 + 1 + 1 + 1) 1 (by simp [hV']) (by rw [gs_ne _ _ _ _ (by omega), gs_ne _ _ _ _ (by omega)]; exact e2)
      (by show ((W.set 5 (i : Int)).set 6 _).getD 5 0 = _; rw [gs_ne _ _ _ _ (by omega), gs_eq _ _ _ (by omega)]) (by show ((W.set 5 (i : Int)).set 6 _).getD 6 0 = _; rw [gs_eq _ _ _ (by simp; omega)]) (by omega) (by omega) (by omega) (by omega)
    have er : s + ((i + 1 : Nat) : Int) + tri i = s + tri (i + 1) := by simp only [tri]; omega
    have en : st + 1 + 1 + 1 + 1 + 1 + 1 + 6 * i + 4 = st + 6 * (i + 1) + 4 := by omega
    rw [er, en] at hh
    exact hh

theorem loop2 (args : List Int) : ∀ (i : Nat) (a b : Int) (V : List Int) (st place : Nat), V.length = 60 → V.getD 8 0 = -1 → V.getD (([0, 6] : List Nat).getD place 0) 0 = i → V.getD (([1, 5] : List Nat).getD place 0) 0 = a → V.getD (([2, 4] : List Nat).getD place 0) 0 = b → i ≤ 1000 → st + 6 * i + 5 ≤ 100000 →
    Ends args fnL2.blocks 100000 1 place V st (if i % 2 = 1 then b else a) (st + 6 * i + 5) 0 := by
  intro i
  induction i with
  | zero =>
    intro a b V st place hV h8 hi ha hb _ hst
    have hrv : runVals args V place 100000 [⟨3, .phi [0, 6]⟩, ⟨4, .phi [1, 5]⟩, ⟨5, .phi [2, 4]⟩] V st = .ok (((V.set 3 0).set 4 a).set 5 b) (st + 1 + 1 + 1) := by
      rw [runVals_on (n := 0) (by omega) (by simp only [comes]; rw [hi]; rfl), runVals_on (n := a) (by omega) (by simp only [comes]; rw [ha]), runVals_on (n := b) (by omega) (by simp only [comes]; rw [hb])]
      rfl
    refine Ends.no (b := ⟨[⟨3, .phi [0, 6]⟩, ⟨4, .phi [1, 5]⟩, ⟨5, .phi [2, 4]⟩], .ifs 3 2 3⟩) rfl hrv (by omega) rfl (by rw [gs_ne _ _ _ _ (by omega), gs_ne _ _ _ _ (by omega), gs_eq _ _ _ (by omega)]) ?_
    have hfin : Ends args fnL2.blocks 100000 3 ((edges fnL2.blocks).places 1 1) (((V.set 3 0).set 4 a).set 5 b) (st + 1 + 1 + 1 + 1) ((((V.set 3 0).set 4 a).set 5 b).getD 4 0) (st + 1 + 1 + 1 + 1 + 1) 0 := Ends.ret (b := ⟨[], .ret 4⟩) rfl rfl (by omega) rfl
    rw [gs_ne _ _ _ _ (by omega), gs_eq _ _ _ (by simp; omega)] at hfin
    simpa using hfin
  | succ i ih =>
    intro a b V st place hV h8 hi ha hb hil hst
    have hrv : runVals args V place 100000 [⟨3, .phi [0, 6]⟩, ⟨4, .phi [1, 5]⟩, ⟨5, .phi [2, 4]⟩] V st = .ok (((V.set 3 ((i + 1 : Nat) : Int)).set 4 a).set 5 b) (st + 1 + 1 + 1) := by
      rw [runVals_on (n := ((i + 1 : Nat) : Int)) (by omega) (by simp only [comes]; rw [hi]), runVals_on (n := a) (by omega) (by simp only [comes]; rw [ha]), runVals_on (n := b) (by omega) (by simp only [comes]; rw [hb])]
      rfl
    refine Ends.yes (b := ⟨[⟨3, .phi [0, 6]⟩, ⟨4, .phi [1, 5]⟩, ⟨5, .phi [2, 4]⟩], .ifs 3 2 3⟩) rfl hrv (by omega) rfl (by rw [gs_ne _ _ _ _ (by omega), gs_ne _ _ _ _ (by omega), gs_eq _ _ _ (by omega)]; omega) ?_
    have hV' : (((V.set 3 ((i + 1 : Nat) : Int)).set 4 a).set 5 b).length = 60 := by simp [hV]
    have e3 : (((V.set 3 ((i + 1 : Nat) : Int)).set 4 a).set 5 b).getD 3 0 = ((i + 1 : Nat) : Int) := by rw [gs_ne _ _ _ _ (by omega), gs_ne _ _ _ _ (by omega), gs_eq _ _ _ (by omega)]
    have e4 : (((V.set 3 ((i + 1 : Nat) : Int)).set 4 a).set 5 b).getD 4 0 = a := by rw [gs_ne _ _ _ _ (by omega), gs_eq _ _ _ (by simp; omega)]
    have e5 : (((V.set 3 ((i + 1 : Nat) : Int)).set 4 a).set 5 b).getD 5 0 = b := by rw [gs_eq _ _ _ (by simp; omega)]
    have e8 : (((V.set 3 ((i + 1 : Nat) : Int)).set 4 a).set 5 b).getD 8 0 = -1 := by rw [gs_ne _ _ _ _ (by omega), gs_ne _ _ _ _ (by omega), gs_ne _ _ _ _ (by omega)]; exact h8
    generalize ((V.set 3 ((i + 1 : Nat) : Int)).set 4 a).set 5 b = W at *
    rw [places2.2.1]
    have hrw : runVals args W 0 100000 [⟨6, .apply 0 [3, 8]⟩] W (st + 1 + 1 + 1 + 1) = .ok (W.set 6 (i : Int)) (st + 1 + 1 + 1 + 1 + 1) := by
      have c1 : comes args W W 0 (.apply 0 [3, 8]) = some (i : Int) := by
        show some (wrap32 (W.getD 3 0 + W.getD 8 0)) = _
        rw [e3, e8, wrap_in _ (by omega) (by omega)]
        congr 1; omega
      rw [runVals_on (by omega) c1]
      rfl
    refine Ends.jump (b := ⟨[⟨6, .apply 0 [3, 8]⟩], .jump 1⟩) rfl hrw (by omega) rfl ?_
    rw [places2.2.2.2]
    have hh := ih b a (W.set 6 (i : Int)) (st + 1 + 1 + 1 + 1 + 1 + 1) 1 (by simp [hV']) (by rw [gs_ne _ _ _ _ (by omega)]; exact e8)
      (by show (W.set 6 (i : Int)).getD 6 0 = _; rw [gs_eq _ _ _ (by omega)]) (by show (W.set 6 (i : Int)).getD 5 0 = _; rw [gs_ne _ _ _ _ (by omega)]; exact e5) (by show (W.set 6 (i : Int)).getD 4 0 = _; rw [gs_ne _ _ _ _ (by omega)]; exact e4) (by omega) (by omega)
    have er : (if i % 2 = 1 then a else b) = (if (i + 1) % 2 = 1 then b else a) := by
      by_cases h : i % 2 = 1
      · rw [if_pos h, if_neg (by omega)]
      · rw [if_neg h, if_pos (by omega)]
    have en : st + 1 + 1 + 1 + 1 + 1 + 1 + 6 * i + 5 = st + 6 * (i + 1) + 5 := by omega
    rw [er, en] at hh
    exact hh
end Code
end Go.Proofs.YtedkjanogjglkaaDoor


namespace Go.Proofs.YtedkjanogjglkaaDoor
open Go.RowKit
namespace Code

theorem endsW1 : Ends [5] fnW1.blocks 100 0 0 zeros 0 40 4 0 :=
  Ends.ret (args := [5]) (bks := fnW1.blocks) (fu := 100) (at_ := 0) (place := 0) (V := zeros) (st := 0) (b := ⟨[⟨0, .arg 0⟩, ⟨1, .const 8⟩, ⟨2, .apply 2 [0, 1]⟩], .ret 2⟩) (v := 2) (V' := (((zeros.set 0 5).set 1 8).set 2 40)) (st' := 3) rfl (by kernel_rfl) (by omega) rfl

theorem endsW2 : Ends [] fnW2.blocks 9 0 0 zeros 0 0 2 4 :=
  Ends.trap (b := ⟨[⟨0, .const 0⟩, ⟨1, .apply 3 [0, 0]⟩], .ret 1⟩) (V' := zeros.set 0 0) (st' := 2) rfl (by kernel_rfl)

theorem tri_two : ∀ k : Nat, 2 * tri k = (k : Int) * ((k : Int) + 1)
  | 0 => rfl
  | k + 1 => by
    have h := tri_two k
    have e : ((k + 1 : Nat) : Int) * (((k + 1 : Nat) : Int) + 1) = (k : Int) * ((k : Int) + 1) + 2 * ((k : Int) + 1) := by
      rw [Int.natCast_add]
      simp only [Int.add_mul, Int.mul_add, Int.one_mul, Int.mul_one, Int.natCast_one]
      omega
    rw [e, ← h]
    simp only [tri]
    omega

theorem endsL1 (k : Nat) (hk : k ≤ 1000) : Ends [(k : Int)] fnL1.blocks 100000 0 0 zeros 0 (tri k) (8 + 6 * k) 0 := by
  have c0 : wrap32 ([(k : Int)].getD 0 0) = (k : Int) := wrap_in _ (by show (-2147483648 : Int) ≤ (k : Int); omega) (by show (k : Int) < 2147483648; omega)
  have hrv : runVals [(k : Int)] zeros 0 100000 [⟨0, .arg 0⟩, ⟨1, .const 0⟩, ⟨2, .const (-1)⟩] zeros 0 = .ok (((zeros.set 0 (k : Int)).set 1 0).set 2 (-1)) 3 := by
    rw [runVals_on (n := (k : Int)) (by omega) (by simp only [comes]; rw [c0]), runVals_on (n := 0) (by omega) rfl, runVals_on (n := -1) (by omega) rfl]
    rfl
  refine Ends.jump (b := ⟨[⟨0, .arg 0⟩, ⟨1, .const 0⟩, ⟨2, .const (-1)⟩], .jump 1⟩) rfl hrv (by omega) rfl ?_
  rw [places1.1]
  have h := loop1 [(k : Int)] k 0 (((zeros.set 0 (k : Int)).set 1 0).set 2 (-1)) 4 0 rfl rfl rfl rfl hk (by omega) (by omega) (by omega)
  have e1 : (0 : Int) + tri k = tri k := by omega
  have e2 : 4 + 6 * k + 4 = 8 + 6 * k := by omega
  rw [e1, e2] at h
  exact h

theorem endsL2 (k : Nat) (hk : k ≤ 1000) : Ends [(k : Int)] fnL2.blocks 100000 0 0 zeros 0 (if k % 2 = 1 then 9 else 7) (10 + 6 * k) 0 := by
  have c0 : wrap32 ([(k : Int)].getD 0 0) = (k : Int) := wrap_in _ (by show (-2147483648 : Int) ≤ (k : Int); omega) (by show (k : Int) < 2147483648; omega)
  have hrv : runVals [(k : Int)] zeros 0 100000 [⟨0, .arg 0⟩, ⟨1, .const 7⟩, ⟨2, .const 9⟩, ⟨8, .const (-1)⟩] zeros 0 = .ok ((((zeros.set 0 (k : Int)).set 1 7).set 2 9).set 8 (-1)) 4 := by
    rw [runVals_on (n := (k : Int)) (by omega) (by simp only [comes]; rw [c0]), runVals_on (n := 7) (by omega) rfl, runVals_on (n := 9) (by omega) rfl, runVals_on (n := -1) (by omega) rfl]
    rfl
  refine Ends.jump (b := ⟨[⟨0, .arg 0⟩, ⟨1, .const 7⟩, ⟨2, .const 9⟩, ⟨8, .const (-1)⟩], .jump 1⟩) rfl hrv (by omega) rfl ?_
  rw [places2.1]
  have h := loop2 [(k : Int)] k 7 9 ((((zeros.set 0 (k : Int)).set 1 7).set 2 9).set 8 (-1)) 5 0 rfl rfl rfl rfl rfl hk (by omega)
  have e2 : 5 + 6 * k + 5 = 10 + 6 * k := by omega
  rw [e2] at h
  exact h
end Code

/-- ir.Run of a text whose run is known. -/
theorem irRun_at (s : List UInt8) (f : Code.Fn) (av : Value) (args : List Int) (fu : Nat) (w : World) (r : Int) (n : Nat) (er : Int) (hs : s.length ≤ 1500) (ht : Tab w) (hf : Code.FnIs s f) (hr : Code.Right f.blocks) (hav : w.ownsRow 0 3 1 av args.length (ints args)) (hal : args.length = f.args) (h32 : In32 args) (hal2 : args.length ≤ 100000) (hfu : fu ≤ 100000) (hrun : Code.Runs args f.blocks) (hE : Code.Ends args f.blocks fu 0 0 zeros 0 r n er) :
    Calls Tryd.prog 18 #[.string (bs s), av, .int .i64 (fu : Nat)] w fun e w' => e = .returned (.tuple #[.int .i64 r, .int .i64 (n : Nat), .int .i64 er]) ∧ Below w.heap.size w w' := by
  refine (irRun_ok s f av args fu w hs ht hf hr hav hal h32 hal2 hfu hrun).mono ?_
  rintro e w' ⟨r', n', er', hE', rfl, hb⟩
  obtain ⟨rfl, rfl, rfl⟩ := hE'.det hE
  exact ⟨rfl, hb⟩
end Go.Proofs.YtedkjanogjglkaaDoor


namespace Go.Proofs.YtedkjanogjglkaaDoor
open Go.RowKit

theorem own_ints1 (W : World) (x : Int) {base g : Nat} (hg : g = W.heap.size) (hb : base ≤ g) : (W.alloc (.cells #[.int .i64 x] 3)).ownsRow base 3 1 (.slice (some ⟨g, 0, none⟩) 1 1) 1 (ints [x]) := by
  subst hg
  exact ⟨by simp [ints], Or.inr ⟨_, _, _, rfl, hb, heap_alloc_new W _, Nat.le_refl _, by decide, by simp, rfl⟩⟩

theorem own_none (W : World) {base : Nat} : W.ownsRow base 3 1 (.slice none 0 0) 0 (ints []) := ⟨rfl, Or.inl ⟨rfl, rfl⟩⟩

/-- Which of 1000 things a raw number speaks of. -/
def picked (n : Int) : Nat := if n < 0 then ((-(n + 1)) % 1000).toNat else (n % 1000).toNat

theorem picked_lt (n : Int) : picked n < 1000 := by
  unfold picked
  split <;> omega

set_option maxHeartbeats 1000000 in
theorem pick_any (n : Int) (hn : -9223372036854775808 ≤ n) (hn' : n ≤ 9223372036854775807) (w : World) :
    Calls Tryd.prog 19 #[.int .i64 n, .int .i64 1000] w fun e w' => e = .returned (.int .i64 (picked n : Nat)) ∧ w' = w := by
  by_cases h0 : n < 0
  · have hp : ((picked n : Nat) : Int) = -(n + 1).tmod 1000 := by
      unfold picked
      rw [if_pos h0, Int.toNat_of_nonneg (by omega), ← Int.neg_tmod, Int.tmod_eq_emod_of_nonneg (by omega)]
    rw [hp]
    go_enter Tryd.func19, Tryd.ntmps19
    go_wp2
    go_ret
    exact ⟨rfl, rfl⟩
  · have hp : ((picked n : Nat) : Int) = n % 1000 := by
      unfold picked
      rw [if_neg h0, Int.toNat_of_nonneg (by omega)]
    rw [hp]
    go_enter Tryd.func19, Tryd.ntmps19
    go_wp2
    go_ret
    exact ⟨rfl, rfl⟩

theorem runW1 (av : Value) (w : World) (ht : Tab w) (hav : w.ownsRow 0 3 1 av 1 (ints [5])) :
    Calls Tryd.prog 18 #[.string (bs Code.textW1), av, .int .i64 100] w fun e w' => e = .returned (.tuple #[.int .i64 40, .int .i64 4, .int .i64 0]) ∧ Below w.heap.size w w' :=
  irRun_at Code.textW1 Code.fnW1 av [5] 100 w 40 4 0 (by decide) ht Code.isW1 Code.rightW1 hav rfl (fun x hx => by rw [List.mem_singleton.1 hx]; omega) (by decide) (by omega) (Code.runsW1 [5] rfl) Code.endsW1

theorem runW2 (w : World) (ht : Tab w) :
    Calls Tryd.prog 18 #[.string (bs Code.textW2), .slice none 0 0, .int .i64 9] w fun e w' => e = .returned (.tuple #[.int .i64 0, .int .i64 2, .int .i64 4]) ∧ Below w.heap.size w w' :=
  irRun_at Code.textW2 Code.fnW2 (.slice none 0 0) [] 9 w 0 2 4 (by decide) ht Code.isW2 Code.rightW2 (own_none w) rfl (fun x hx => by cases hx) (by decide) (by omega) (Code.runsW2 [] rfl) Code.endsW2

theorem runL1 (av : Value) (k : Nat) (hk : k < 1000) (w : World) (ht : Tab w) (hav : w.ownsRow 0 3 1 av 1 (ints [(k : Int)])) :
    Calls Tryd.prog 18 #[.string (bs Code.textL1), av, .int .i64 100000] w fun e w' => e = .returned (.tuple #[.int .i64 (Code.tri k), .int .i64 ((8 + 6 * k : Nat) : Int), .int .i64 0]) ∧ Below w.heap.size w w' :=
  irRun_at Code.textL1 Code.fnL1 av [(k : Int)] 100000 w (Code.tri k) (8 + 6 * k) 0 (of_decide_eq_true (by kernel_rfl)) ht Code.isL1 Code.rightL1 hav rfl (fun x hx => by rw [List.mem_singleton.1 hx]; omega) (show 1 ≤ 100000 by omega) (by omega) (Code.runsL1 [(k : Int)] rfl) (Code.endsL1 k (by omega))

theorem runL2 (av : Value) (k : Nat) (hk : k < 1000) (w : World) (ht : Tab w) (hav : w.ownsRow 0 3 1 av 1 (ints [(k : Int)])) :
    Calls Tryd.prog 18 #[.string (bs Code.textL2), av, .int .i64 100000] w fun e w' => e = .returned (.tuple #[.int .i64 (if k % 2 = 1 then 9 else 7), .int .i64 ((10 + 6 * k : Nat) : Int), .int .i64 0]) ∧ Below w.heap.size w w' :=
  irRun_at Code.textL2 Code.fnL2 av [(k : Int)] 100000 w (if k % 2 = 1 then 9 else 7) (10 + 6 * k) 0 (of_decide_eq_true (by kernel_rfl)) ht Code.isL2 Code.rightL2 hav rfl (fun x hx => by rw [List.mem_singleton.1 hx]; omega) (show 1 ≤ 100000 by omega) (by omega) (Code.runsL2 [(k : Int)] rfl) (Code.endsL2 k (by omega))
end Go.Proofs.YtedkjanogjglkaaDoor


namespace Go.Proofs.YtedkjanogjglkaaDoor
open Go.RowKit

set_option maxRecDepth 100000 in
set_option maxHeartbeats 2000000 in
theorem works_any (w : World) (ht : Tab w) :
    Calls Tryd.prog 15 #[] w fun e w' => e = .returned (.bool true) ∧ Below w.heap.size w w' := by
  have HT := hide ht
  clear ht
  go_enter Tryd.func15, Tryd.ntmps15
  go_wp2_with fail
  have hb1 : Below w.heap.size w (w.alloc (.cells #[.int .i64 5] 3)) := below_al (Below.refl _ _) _
  refine (runW1 _ _ (HT.out.below hb1) (own_ints1 w 5 rfl (Nat.zero_le _))).mono ?_
  rintro e w1 ⟨rfl, h1⟩
  have hb2 : Below w.heap.size w w1 := hb1.trans (h1.mono hb1.size)
  clear h1 hb1
  go_wp2_with fail
  refine (runW2 w1 (HT.out.below hb2)).mono ?_
  rintro e w2 ⟨rfl, h2⟩
  have hb3 : Below w.heap.size w w2 := hb2.trans (h2.mono hb2.size)
  clear h2 hb2
  go_wp2
  go_ret
  exact ⟨rfl, hb3⟩
end Go.Proofs.YtedkjanogjglkaaDoor


namespace Go.Proofs.YtedkjanogjglkaaDoor
open Go.ChangeShapes Go.WideShapes Go.ChangeAt Go.RowKit

theorem ownK : ownKnob Tryd.prog.godebug = none := by kernel_rfl

theorem three_of {α : Type} : ∀ {l : List α}, l.length = 3 → ∃ a b c, l = [a, b, c]
  | [a, b, c], _ => ⟨a, b, c, rfl⟩
  | [], h => by cases h
  | [_], h => by cases h
  | [_, _], h => by cases h
  | _ :: _ :: _ :: _ :: _, h => by simp only [List.length_cons] at h; omega

theorem row_cells {W : World} {n : Nat} {c : List Value} {a : List UInt8} {b d : Int} {p : List MemPlace}
    (h : DataW.trod (fun _ => ()) Tryd.prog W 0 (fun _ => true) false n 144 c = some (.agg [.lit (.string a), .lit (.int .i64 b), .lit (.int .i64 d)], p)) : c = [.string (bs a), .int .i64 b, .int .i64 d] := by
  obtain ⟨ys, m, _, ex, hl, hy, hf⟩ := DataW.trod_struct Tryd.underlying144 h
  have h3 : Tryd.prog.cellsOf 144 = 3 := by kernel_rfl
  have hs1 : Tryd.prog.cellsOf 9 = 1 := by kernel_rfl
  have hi1 : Tryd.prog.cellsOf 3 = 1 := by kernel_rfl
  rw [h3] at hl
  obtain ⟨c0, c1, c2, rfl⟩ := three_of hl
  obtain ⟨y0, y1, y2, rfl⟩ := three_of (show ys.length = 3 from hy)
  have h0 : DataW.trod (fun _ => ()) Tryd.prog W 0 (fun _ => true) false m 9 (([c0, c1, c2].drop 0).take (Tryd.prog.cellsOf 9)) = some y0 := hf 0 _ rfl
  have h1 : DataW.trod (fun _ => ()) Tryd.prog W 0 (fun _ => true) false m 3 (([c0, c1, c2].drop 1).take (Tryd.prog.cellsOf 3)) = some y1 := hf 1 _ rfl
  have h2 : DataW.trod (fun _ => ()) Tryd.prog W 0 (fun _ => true) false m 3 (([c0, c1, c2].drop 2).take (Tryd.prog.cellsOf 3)) = some y2 := hf 2 _ rfl
  rw [hs1] at h0
  rw [hi1] at h1 h2
  obtain ⟨s, e0, f0, _⟩ := DataW.trod_string Tryd.underlying9 h0
  obtain ⟨x, e1, f1, _⟩ := DataW.trod_int Tryd.underlying3 h1
  obtain ⟨z, e2, f2, _⟩ := DataW.trod_int Tryd.underlying3 h2
  have ex1 := (Prod.mk.inj ex).1
  simp only [List.map_cons, List.map_nil, DataW.agg.injEq, List.cons.injEq, and_true] at ex1
  obtain ⟨g0, g1, g2⟩ := ex1
  rw [f0] at g0
  rw [f1] at g1
  rw [f2] at g2
  simp only [DataW.lit.injEq, Lit.string.injEq, Lit.int.injEq, true_and] at g0 g1 g2
  have k0 : c0 = .string s := by simpa using e0
  have k1 : c1 = .int .i64 x := by simpa using e1
  have k2 : c2 = .int .i64 z := by simpa using e2
  subst g1 g2
  rw [k0, k1, k2, g0]
  rfl

theorem tab_of_laid {W : World} (h : laidMetH Tryd.prog [("chisel/code.opTable", Rows.laid_chisel_code_opTable)] W) : Tab W := by
  rw [MakeChecks.laidMetH_plain _ _ _ (by kernel_rfl)] at h
  obtain ⟨ps, ⟨g, t, cs, fuel, p, q, hg, ht, hv, hd, _, _⟩, _, _⟩ := h
  obtain rfl := Option.some.inj ((show Tryd.prog.globalNamed "chisel/code.opTable" = some 0 by kernel_rfl).symm.trans hg)
  obtain rfl := Option.some.inj ((show (Tryd.prog.globals[0]?).map (·.type) = some 145 by kernel_rfl).symm.trans ht)
  obtain ⟨xs, m, _, ex, hcl, hl, hel⟩ := DataW.trod_array Tryd.underlying145 hd
  have h3 : Tryd.prog.cellsOf 144 = 3 := by kernel_rfl
  have h39 : Tryd.prog.cellsOf 145 = 39 := by kernel_rfl
  rw [h39] at hcl
  have e3 : (xs.map (·.1)) = _ := (DataW.agg.inj (Prod.mk.inj ex).1).symm
  have key : ∀ i, i < 13 → (cs.toList.drop (i * 3)).take 3 = (opCells.drop (i * 3)).take 3 := by
    intro i hi
    have hE := hel i hi
    rw [h3, List.getElem?_eq_getElem (by omega)] at hE
    have e4 : (xs.map (·.1))[i]? = some (xs[i]'(by omega)).1 := by rw [List.getElem?_map, List.getElem?_eq_getElem (by omega)]; rfl
    rw [e3] at e4
    generalize xs[i]'(by omega) = y at hE e4
    obtain ⟨yd, yp⟩ := y
    match i, hi with
    | 0, _ | 1, _ | 2, _ | 3, _ | 4, _ | 5, _ | 6, _ | 7, _ | 8, _ | 9, _ | 10, _ | 11, _ | 12, _ =>
      have e5 := Option.some.inj e4
      subst e5
      rw [row_cells hE]
      rfl
  intro j v hj
  rw [Nat.zero_add, World.var?_cell hg hv j]
  have hj39 : j < 39 := by
    have := (List.getElem?_eq_some_iff.1 hj).1
    exact this
  have hk := congrArg (fun l => l[j % 3]?) (key (j / 3) (by omega))
  simp only [List.getElem?_take, List.getElem?_drop, if_pos (Nat.mod_lt j (by omega : 3 > 0))] at hk
  rw [show j / 3 * 3 + j % 3 = j by omega, hj] at hk
  simpa using hk
end Go.Proofs.YtedkjanogjglkaaDoor


namespace Go.Proofs.YtedkjanogjglkaaDoor.Code

/-- Can be come to from block 0. -/
def Reached (bks : List Blk) (i : Nat) : Prop := ∀ S : Nat → Prop, S 0 → (∀ a (h : a < bks.length) (t : Nat), S a → t ∈ tg bks[a].last → S t) → S i

/-- What a search from some blocks has marked. -/
structure Marked (T : List (List Nat)) (l : List Nat) (R R' : List Bool) : Prop where
  len : R'.length = R.length
  mono : ∀ i, R.getD i false = true → R'.getD i false = true
  hit : ∀ b ∈ l, R'.getD b false = true
  closed : ∀ x, R'.getD x false = true → R.getD x false = false → ∀ t ∈ T.getD x [], R'.getD t false = true
  sound : ∀ S : Nat → Prop, (∀ b ∈ l, S b) → (∀ a t, S a → t ∈ T.getD a [] → S t) → ∀ x, R'.getD x false = true → R.getD x false = false → S x

theorem getD_true {R : List Bool} {b : Nat} (h : b < R.length) : R.getD b true = R.getD b false := by
  simp [List.getD_eq_getElem?_getD, h]

theorem fold_marked (T : List (List Nat)) (n f : Nat) (ih : ∀ (R : List Bool) (b : Nat), R.length = n → b < n → falses R < f → Marked T [b] R (reachF f T R b)) :
    ∀ (l : List Nat) (R : List Bool), (∀ t ∈ l, t < n) → R.length = n → falses R < f → Marked T l R (l.foldl (reachF f T) R)
  | [], R, _, _, _ => ⟨rfl, fun _ h => h, by simp, fun x h h' => Bool.noConfusion ((show R.getD x false = true from h).symm.trans h'), fun S _ _ x h h' => Bool.noConfusion ((show R.getD x false = true from h).symm.trans h')⟩
  | t :: l, R, hl, hR, hf => by
    have h1 := ih R t hR (hl t List.mem_cons_self) hf
    have hfac := reachF_facts f T R t
    have h2 := fold_marked T n f ih l (reachF f T R t) (fun x hx => hl x (List.mem_cons_of_mem _ hx)) (by rw [hfac.1]; exact hR) (by omega)
    rw [List.foldl_cons]
    generalize reachF f T R t = R1 at *
    generalize l.foldl (reachF f T) R1 = R2 at *
    refine ⟨by rw [h2.len, h1.len], fun i h => h2.mono i (h1.mono i h), fun b hb => ?_, fun x hx hx' u hu => ?_, fun S hS hc x hx hx' => ?_⟩
    · rcases List.mem_cons.1 hb with rfl | hb
      · exact h2.mono _ (h1.hit _ List.mem_cons_self)
      · exact h2.hit b hb
    · cases h : R1.getD x false with
      | true => exact h2.mono _ (h1.closed x h hx' u hu)
      | false => exact h2.closed x hx h u hu
    · cases h : R1.getD x false with
      | true => exact h1.sound S (fun b hb => by rw [List.mem_singleton.1 hb]; exact hS t List.mem_cons_self) hc x h hx'
      | false => exact h2.sound S (fun b hb => hS b (List.mem_cons_of_mem _ hb)) hc x hx h

theorem reachF_marked (T : List (List Nat)) (n : Nat) (hT : ∀ b, ∀ t ∈ T.getD b [], t < n) : ∀ (f : Nat) (R : List Bool) (b : Nat), R.length = n → b < n → falses R < f → Marked T [b] R (reachF f T R b)
  | 0, R, b, _, _, hf => by omega
  | f + 1, R, b, hR, hb, hf => by
    by_cases h : R.getD b true = true
    · rw [reachF_yes h]
      rw [getD_true (by omega)] at h
      exact ⟨rfl, fun _ h => h, fun x hx => by rw [List.mem_singleton.1 hx]; exact h, fun x h h' => Bool.noConfusion (h.symm.trans h'), fun S _ _ x h h' => Bool.noConfusion (h.symm.trans h')⟩
    · have hf0 : R.getD b true = false := by simpa using h
      rw [reachF_no hf0]
      rw [getD_true (by omega)] at hf0
      have hRb : R[b]'(by omega) = false := by
        rw [List.getD_eq_getElem?_getD, List.getElem?_eq_getElem (by omega)] at hf0
        exact hf0
      have hfs := falses_set R b (by omega) hRb
      have h2 := fold_marked T n f (reachF_marked T n hT f) (T.getD b []) (R.set b true) (hT b) (by simpa using hR) (by omega)
      generalize (T.getD b []).foldl (reachF f T) (R.set b true) = R2 at *
      have hset : ∀ i, i ≠ b → (R.set b true).getD i false = R.getD i false := fun i hi => by
        rw [List.getD_eq_getElem?_getD, List.getD_eq_getElem?_getD, List.getElem?_set_ne (by omega)]
      have hsb : (R.set b true).getD b false = true := by
        rw [List.getD_eq_getElem?_getD, List.getElem?_set_self (by omega)]; rfl
      refine ⟨by rw [h2.len]; simp, fun i hi => ?_, fun x hx => ?_, fun x hx hx' u hu => ?_, fun S hS hc x hx hx' => ?_⟩
      · by_cases e : i = b
        · subst e; exact h2.mono _ hsb
        · exact h2.mono _ (by rw [hset i e]; exact hi)
      · rw [List.mem_singleton.1 hx]; exact h2.mono _ hsb
      · by_cases e : x = b
        · subst e; exact h2.hit u hu
        · exact h2.closed x hx (by rw [hset x e]; exact hx') u hu
      · have hSb := hS b List.mem_cons_self
        by_cases e : x = b
        · subst e; exact hSb
        · exact h2.sound S (fun t ht => hc b t hSb ht) hc x hx (by rw [hset x e]; exact hx')

theorem tgs_lt {bks : List Blk} (hg : ∀ b ∈ bks, ∀ t ∈ tg b.last, t < bks.length) (b : Nat) : ∀ t ∈ (tgs bks).getD b [], t < bks.length := by
  intro t ht
  by_cases h : b < bks.length
  · rw [tgs_get bks b h] at ht
    exact hg _ (List.getElem_mem h) t ht
  · rw [List.getD_eq_getElem?_getD, List.getElem?_eq_none (by simp [tgs]; omega)] at ht
    simp at ht

theorem reached_iff (bks : List Blk) (hn : bks.length ≤ 8) (hn0 : 0 < bks.length) (hg : ∀ b ∈ bks, ∀ t ∈ tg b.last, t < bks.length) :
    reachF 9 (tgs bks) (List.replicate bks.length false) 0 = List.replicate bks.length true ↔ ∀ i, i < bks.length → Reached bks i := by
  have hf : falses (List.replicate bks.length false) < 9 := by
    have : falses (List.replicate bks.length false) = bks.length := by rw [falses, List.countP_replicate]; rfl
    omega
  have hm := reachF_marked (tgs bks) bks.length (tgs_lt hg) 9 (List.replicate bks.length false) 0 (by simp) hn0 hf
  have h0 : ∀ i, (List.replicate bks.length false).getD i false = false := fun i => by
    simp [List.getD_eq_getElem?_getD, List.getElem?_replicate]
    split <;> rfl
  generalize reachF 9 (tgs bks) (List.replicate bks.length false) 0 = R at *
  have hlen : R.length = bks.length := by rw [hm.len]; simp
  constructor
  · intro e i hi S hS hc
    refine hm.sound (fun j => S j) (fun b hb => by rw [List.mem_singleton.1 hb]; exact hS) (fun a t ha ht => ?_) i (by rw [e]; simp [List.getD_eq_getElem?_getD, hi]) (h0 i)
    by_cases h : a < bks.length
    · rw [tgs_get bks a h] at ht
      exact hc a h t ha ht
    · rw [List.getD_eq_getElem?_getD, List.getElem?_eq_none (by simp [tgs]; omega)] at ht
      simp at ht
  · intro h
    apply List.ext_getElem
    · rw [hlen]; simp
    · intro i h1 h2
      have := h i (by omega) (fun j => R.getD j false = true) (hm.hit 0 List.mem_cons_self) (fun a ha t hRa ht => hm.closed a hRa (h0 a) t (by rw [tgs_get bks a ha]; exact ht))
      rw [List.getD_eq_getElem?_getD, List.getElem?_eq_getElem h1] at this
      simp only [Option.getD_some] at this
      rw [this]; simp
end Go.Proofs.YtedkjanogjglkaaDoor.Code
