/-
  Texts that are written out are read by reckoning.
-/
import Derived.Test.YtdffpkmabehfbaaDoorCIrRun
namespace Go.Proofs.YtdffpkmabehfbaaDoor

namespace Code
def phiF : Nat → List UInt8 → Option (List Nat × List UInt8)
  | 0, _ => none
  | n + 1, s => match cut [32] s with
    | none => some ([], s)
    | some r => (value r).bind fun p => (phiF n p.2).map fun q => (p.1 :: q.1, q.2)

theorem phiF_sound : ∀ (n : Nat) (s : List UInt8) (o : List Nat × List UInt8), phiF n s = some o → PhiOf s (some o)
  | 0, _, _, h => by cases h
  | n + 1, s, o, h => by
    unfold phiF at h
    split at h
    · rename_i hc
      cases h
      exact PhiOf.done hc
    · rename_i r hc
      cases hv : value r with
      | none => rw [hv] at h; cases h
      | some p =>
        rw [hv] at h
        simp only [Option.bind_some] at h
        cases hq : phiF n p.2 with
        | none => rw [hq] at h; cases h
        | some q =>
          rw [hq] at h
          cases h
          exact PhiOf.more hc hv (phiF_sound n _ _ hq)

def thingF (n a : Nat) (s : List UInt8) : Option (Thing × List UInt8) :=
  if word s = sPhi then (phiF n (behind s)).map fun p => (.phi p.1, p.2)
  else if word s = sArg then (cut [32] (behind s)).bind fun r => (below a r).map fun p => (.arg p.1, p.2)
  else if word s = sConst then (cut [32] (behind s)).bind fun r => (signed r).map fun p => (.const p.1, p.2)
  else apply (word s) (behind s)

theorem thingF_sound {n a : Nat} {s : List UInt8} {o : Thing × List UInt8} (h : thingF n a s = some o) : ThingOf a s (some o) := by
  unfold thingF at h
  split at h
  · rename_i h1
    cases hp : phiF n (behind s) with
    | none => rw [hp] at h; cases h
    | some q =>
      rw [hp] at h
      cases h
      exact ThingOf.phi h1 (phiF_sound _ _ _ hp)
  · rename_i h1
    split at h
    · rename_i h2
      rw [← h]
      exact ThingOf.arg h2
    · rename_i h2
      split at h
      · rename_i h3
        rw [← h]
        exact ThingOf.const h3
      · rename_i h3
        rw [← h]
        exact ThingOf.apply h1 h2 h3

def valuesF : Nat → Nat → Bool → List UInt8 → Option (List Val × List UInt8)
  | 0, _, _, _ => none
  | n + 1, a, b, s => match cut [118] s with
    | none => some ([], s)
    | some _ => (value s).bind fun p => (cut [32, 61, 32] p.2).bind fun u => (thingF 60 a u).bind fun y =>
      if y.1.isPhi = true ∧ b = false then none else (cut [10] y.2).bind fun z => (valuesF n a y.1.isPhi z).map fun q => (⟨p.1, y.1⟩ :: q.1, q.2)

theorem valuesF_sound : ∀ (n a : Nat) (b : Bool) (s : List UInt8) (o : List Val × List UInt8), valuesF n a b s = some o → ValuesOf a b s (some o)
  | 0, _, _, _, _, h => by cases h
  | n + 1, a, b, s, o, h => by
    unfold valuesF at h
    split at h
    · rename_i hc
      cases h
      exact ValuesOf.done hc
    · rename_i r hc
      cases hv : value s with
      | none => rw [hv] at h; cases h
      | some p =>
        rw [hv] at h
        simp only [Option.bind_some] at h
        cases hu : cut [32, 61, 32] p.2 with
        | none => rw [hu] at h; cases h
        | some u =>
          rw [hu] at h
          simp only [Option.bind_some] at h
          cases hy : thingF 60 a u with
          | none => rw [hy] at h; cases h
          | some y =>
            rw [hy] at h
            simp only [Option.bind_some] at h
            split at h
            · cases h
            · rename_i hph
              cases hz : cut [10] y.2 with
              | none => rw [hz] at h; cases h
              | some z =>
                rw [hz] at h
                simp only [Option.bind_some] at h
                cases hq : valuesF n a y.1.isPhi z with
                | none => rw [hq] at h; cases h
                | some q =>
                  rw [hq] at h
                  cases h
                  refine ValuesOf.more hc hv hu (thingF_sound hy) (fun hp => ?_) hz (valuesF_sound n _ _ _ _ hq)
                  cases b
                  · exact absurd ⟨hp, rfl⟩ hph
                  · rfl

def blockF (a num : Nat) (s : List UInt8) : Option (Blk × List UInt8) :=
  (cut [98] s).bind fun r1 => (below 8 r1).bind fun p => if p.1 ≠ num then none else (cut [58] p.2).bind fun r3 => (cut [10] r3).bind fun r4 => (valuesF 61 a true r4).bind fun q => (last q.2).bind fun z => (cut [10] z.2).map fun r7 => (⟨q.1, z.1⟩, r7)

theorem blockF_sound {a num : Nat} {s t : List UInt8} {b : Blk} (h : blockF a num s = some (b, t)) : BlockIs a num s b t := by
  unfold blockF at h
  cases h1 : cut [98] s with
  | none => rw [h1] at h; cases h
  | some r1 =>
    rw [h1] at h
    simp only [Option.bind_some] at h
    cases h2 : below 8 r1 with
    | none => rw [h2] at h; cases h
    | some p =>
      rw [h2] at h
      simp only [Option.bind_some] at h
      split at h
      · cases h
      · rename_i hn
        have hn' : p.1 = num := Classical.byContradiction hn
        obtain ⟨m, r2⟩ := p
        subst hn'
        cases h3 : cut [58] r2 with
        | none => simp only [h3] at h; cases h
        | some r3 =>
          simp only [h3, Option.bind_some] at h
          cases h4 : cut [10] r3 with
          | none => rw [h4] at h; cases h
          | some r4 =>
            rw [h4] at h
            simp only [Option.bind_some] at h
            cases h5 : valuesF 61 a true r4 with
            | none => rw [h5] at h; cases h
            | some q =>
              rw [h5] at h
              simp only [Option.bind_some] at h
              cases h6 : last q.2 with
              | none => rw [h6] at h; cases h
              | some z =>
                rw [h6] at h
                simp only [Option.bind_some] at h
                cases h7 : cut [10] z.2 with
                | none => rw [h7] at h; cases h
                | some r7 =>
                  rw [h7] at h
                  cases h
                  exact BlockIs.mk h1 h2 h3 h4 (valuesF_sound _ _ _ _ _ h5) h6 h7

def blocksF : Nat → Nat → Nat → List UInt8 → Option (List Blk)
  | 0, _, _, _ => none
  | n + 1, a, k, s => if s = [] then some [] else (blockF a k s).bind fun p => (blocksF n a (k + 1) p.2).map fun q => p.1 :: q

theorem blocksF_sound : ∀ (n a k : Nat) (s : List UInt8) (o : List Blk), blocksF n a k s = some o → BlocksIs a k s o
  | 0, _, _, _, _, h => by cases h
  | n + 1, a, k, s, o, h => by
    unfold blocksF at h
    split at h
    · rename_i hs
      subst hs
      cases h
      exact BlocksIs.nil
    · rename_i hs
      cases hb : blockF a k s with
      | none => rw [hb] at h; cases h
      | some p =>
        rw [hb] at h
        simp only [Option.bind_some] at h
        cases hq : blocksF n a (k + 1) p.2 with
        | none => rw [hq] at h; cases h
        | some q =>
          rw [hq] at h
          cases h
          exact BlocksIs.cons hs (blockF_sound hb) (blocksF_sound n _ _ _ _ hq)

def fnF (s : List UInt8) : Option Fn :=
  (cut sFunc s).bind fun r1 => (below 5 r1).bind fun p => (cut [10] p.2).bind fun r3 => (blockF p.1 0 r3).bind fun b => (blocksF 9 p.1 1 b.2).map fun q => ⟨p.1, b.1 :: q⟩

theorem fnF_sound {s : List UInt8} {f : Fn} (h : fnF s = some f) : FnIs s f := by
  unfold fnF at h
  cases h1 : cut sFunc s with
  | none => rw [h1] at h; cases h
  | some r1 =>
    rw [h1] at h
    simp only [Option.bind_some] at h
    cases h2 : below 5 r1 with
    | none => rw [h2] at h; cases h
    | some p =>
      rw [h2] at h
      simp only [Option.bind_some] at h
      cases h3 : cut [10] p.2 with
      | none => rw [h3] at h; cases h
      | some r3 =>
        rw [h3] at h
        simp only [Option.bind_some] at h
        cases h4 : blockF p.1 0 r3 with
        | none => rw [h4] at h; cases h
        | some b =>
          rw [h4] at h
          simp only [Option.bind_some] at h
          cases h5 : blocksF 9 p.1 1 b.2 with
          | none => rw [h5] at h; cases h
          | some q =>
            rw [h5] at h
            cases h
            exact FnIs.mk h1 h2 h3 (blockF_sound h4) (blocksF_sound _ _ _ _ _ h5)
end Code
end Go.Proofs.YtdffpkmabehfbaaDoor
