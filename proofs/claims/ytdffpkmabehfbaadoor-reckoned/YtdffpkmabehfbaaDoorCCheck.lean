/-
  Functions that are written out are looked through by reckoning.
-/
import Derived.Test.YtdffpkmabehfbaaDoorCEval
namespace Go.Proofs.YtdffpkmabehfbaaDoor

namespace Code
def noBlk : Blk := ⟨[], .ret 0⟩

theorem blk_getD (bks : List Blk) (j : Nat) (h : j < bks.length) : bks.getD j noBlk = bks[j] := by rw [List.getD_eq_getElem?_getD, List.getElem?_eq_getElem h]; rfl

def smallB (bks : List Blk) : Bool := bks.all fun b => decide (b.values.length ≤ 100000) && (b.values.all fun v => decide (v.num < 60) && decide ((useT v.thing).length ≤ 100000) && (useT v.thing).all fun x => decide (x < 60)) && decide ((useL b.last).length ≤ 100000) && (useL b.last).all fun x => decide (x < 60)

theorem smallB_sound {bks : List Blk} (h : smallB bks = true) : Small bks := by
  intro b hb
  have h1 := List.all_eq_true.1 h b hb
  simp only [Bool.and_eq_true, List.all_eq_true, decide_eq_true_eq] at h1
  exact ⟨h1.1.1.1, fun v hv => ⟨(h1.1.1.2 v hv).1.1, (h1.1.1.2 v hv).1.2, (h1.1.1.2 v hv).2⟩, h1.1.2, h1.2⟩

def onceB : List Bool → List Blk → Bool
  | _, [] => true
  | R, b :: r => decide (nums b.values).Nodup && ((nums b.values).all fun x => R.getD x false == false) && onceB (addAll R b.values) r

theorem onceB_sound : ∀ (bks : List Blk) (R : List Bool), onceB R bks = true → Once R bks
  | [], _, _ => trivial
  | b :: r, R, h => by
    simp only [onceB, Bool.and_eq_true, decide_eq_true_eq, List.all_eq_true, beq_iff_eq] at h
    exact ⟨⟨h.1.1, h.1.2⟩, onceB_sound r _ h.2⟩

def goesB (bks : List Blk) : Bool := bks.all fun b => (tg b.last).all fun t => decide (1 ≤ t) && decide (t < bks.length)

def phisB (bks : List Blk) : Bool := (List.range bks.length).all fun j => (bks.getD j noBlk).values.all fun v => match v.thing with
  | .phi of => decide (j ≠ 0) && decide (of.length = (edges bks).counts.getD j 0)
  | _ => true

theorem phisB_sound {bks : List Blk} (h : phisB bks = true) : PhisOk bks := by
  intro j hj v hv of ho
  have h1 := List.all_eq_true.1 h j (List.mem_range.2 hj)
  rw [blk_getD bks j hj] at h1
  have h2 := List.all_eq_true.1 h1 v hv
  rw [ho] at h2
  simp only [Bool.and_eq_true, decide_eq_true_eq] at h2
  exact h2

def valsB : List Bool → List Val → Bool
  | _, [] => true
  | R, v :: l => hasAll R (useT v.thing) && valsB (R.set v.num true) l

theorem valsB_sound : ∀ (l : List Val) (R : List Bool), valsB R l = true → ValsOk R l
  | [], _, _ => trivial
  | v :: l, R, h => by
    simp only [valsB, Bool.and_eq_true] at h
    exact ⟨h.1, valsB_sound l _ h.2⟩

def phisMadeB (vals : List Val) (place : Nat) (R : List Bool) : Bool := vals.all fun v => match v.thing with
  | .phi of => decide (place < of.length) && decide (of.getD place 0 < 60) && R.getD (of.getD place 0) false
  | _ => true

theorem phisMadeB_sound {vals : List Val} {place : Nat} {R : List Bool} (h : phisMadeB vals place R = true) : PhisMade vals place R := by
  intro v hv of ho
  have h1 := List.all_eq_true.1 h v hv
  rw [ho] at h1
  simp only [Bool.and_eq_true, decide_eq_true_eq] at h1
  obtain ⟨⟨h2, h3⟩, h4⟩ := h1
  have e : of.getD place 0 = of[place] := by rw [List.getD_eq_getElem?_getD, List.getElem?_eq_getElem h2]; rfl
  rw [e] at h3 h4
  exact ⟨h2, h3, h4⟩

def aheadB (bks : List Blk) (A : Sets) : Bool := (List.range bks.length).all fun j =>
  let b := bks.getD j noBlk
  let R := A.getD j []
  valsB R b.values && hasAll (addAll R b.values) (useL b.last) && (List.range (tg b.last).length).all fun k =>
    phisMadeB (bks.getD ((tg b.last).getD k 0) noBlk).values ((edges bks).places j k) (addAll R b.values)

theorem aheadB_sound {bks : List Blk} {A : Sets} (h : aheadB bks A = true) : AheadOk bks A := by
  intro j hj hA
  have h1 := List.all_eq_true.1 h j (List.mem_range.2 hj)
  simp only [blk_getD bks j hj, sets_get A j hA, Bool.and_eq_true] at h1
  refine ⟨valsB_sound _ _ h1.1.1, h1.1.2, fun k hk ht => ?_⟩
  have h2 := List.all_eq_true.1 h1.2 k (List.mem_range.2 hk)
  have e : (tg bks[j].last).getD k 0 = (tg bks[j].last)[k] := by rw [List.getD_eq_getElem?_getD, List.getElem?_eq_getElem hk]; rfl
  rw [e, blk_getD bks _ ht] at h2
  exact phisMadeB_sound h2

def iterF : Nat → List Blk → Sets → Option Sets
  | 0, _, _ => none
  | n + 1, bks, A => if (pass bks A).2 = true then iterF n bks (pass bks A).1 else some (pass bks A).1

theorem iterF_sound : ∀ (n : Nat) (bks : List Blk) (A B : Sets), iterF n bks A = some B → Iter bks A B
  | 0, _, _, _, h => by cases h
  | n + 1, bks, A, B, h => by
    unfold iterF at h
    split at h
    · rename_i hc
      exact Iter.more hc (iterF_sound n _ _ _ h)
    · rename_i hc
      cases h
      exact Iter.done (by simpa using hc)

def aheadAllB (bks : List Blk) : Bool := match iterF 20 bks (startTo bks.length bks.length) with
  | some A => aheadB bks A
  | none => false

def rightB (bks : List Blk) : Bool := decide (bks.length ≤ 8) && decide (0 < bks.length) && smallB bks && onceB noNumber bks && goesB bks && (reachF 9 (tgs bks) (List.replicate bks.length false) 0 == List.replicate bks.length true) && phisB bks && aheadAllB bks

theorem rightB_sound {bks : List Blk} (h : rightB bks = true) : Right bks := by
  simp only [rightB, Bool.and_eq_true, decide_eq_true_eq, beq_iff_eq] at h
  obtain ⟨⟨⟨⟨⟨⟨⟨h1, h2⟩, h3⟩, h4⟩, h5⟩, h6⟩, h7⟩, h8⟩ := h
  refine ⟨h1, h2, smallB_sound h3, onceB_sound _ _ h4, fun b hb t ht => ?_, h6, phisB_sound h7, fun A _ _ hA => ?_⟩
  · have := List.all_eq_true.1 (List.all_eq_true.1 h5 b hb) t ht
    simpa using this
  · unfold aheadAllB at h8
    split at h8
    · rename_i B hB
      rw [hA.det (iterF_sound _ _ _ _ hB)]
      exact aheadB_sound h8
    · cases h8

def fitsB (n place : Nat) (v : Val) : Bool := decide (v.num < 60) && match v.thing with
  | .phi of => decide (place < of.length) && decide (of.getD place 0 < 60)
  | .arg m => decide (m < n)
  | .const m => decide (-2147483648 ≤ m) && decide (m < 2147483648)
  | .apply k of => decide (k < 13) && decide (0 < of.length) && decide (of.length ≤ 100000) && of.all fun x => decide (x < 60)

theorem fitsB_sound {args : List Int} {place : Nat} {v : Val} (h : fitsB args.length place v = true) : Fits args place v := by
  obtain ⟨x, y⟩ := v
  simp only [fitsB, Bool.and_eq_true, decide_eq_true_eq] at h
  refine ⟨h.1, ?_⟩
  cases y with
  | phi of =>
    have h2 := h.2
    simp only [Bool.and_eq_true, decide_eq_true_eq] at h2
    obtain ⟨h3, h4⟩ := h2
    rw [List.getD_eq_getElem?_getD, List.getElem?_eq_getElem h3, Option.getD_some] at h4
    exact ⟨h3, h4⟩
  | arg m => simpa using h.2
  | const m => simpa using h.2
  | apply k of =>
    have h2 := h.2
    simp only [Bool.and_eq_true, decide_eq_true_eq, List.all_eq_true] at h2
    exact ⟨h2.1.1.1, h2.1.1.2, h2.1.2, h2.2⟩

def runsB (n : Nat) (bks : List Blk) : Bool := ((bks.getD 0 noBlk).values.all fun v => fitsB n 0 v) && (List.range bks.length).all fun j => (List.range (tg (bks.getD j noBlk).last).length).all fun k =>
  (bks.getD ((tg (bks.getD j noBlk).last).getD k 0) noBlk).values.all fun v => fitsB n ((edges bks).places j k) v

theorem runsB_sound {args : List Int} {bks : List Blk} (hr : Right bks) (h : runsB args.length bks = true) : Runs args bks := by
  simp only [runsB, Bool.and_eq_true] at h
  refine ⟨hr.most, hr.some, fun b hb => (hr.small b hb).1, fun b hb t ht => (hr.goes b hb t ht).2, fun b hb => (hr.small b hb).2.2.2, fun h0 v hv => ?_, fun j hj k hk ht v hv => ?_⟩
  · have h1 := h.1
    rw [blk_getD bks 0 h0] at h1
    exact fitsB_sound (List.all_eq_true.1 h1 v hv)
  · have h1 := List.all_eq_true.1 h.2 j (List.mem_range.2 hj)
    rw [blk_getD bks j hj] at h1
    have h2 := List.all_eq_true.1 h1 k (List.mem_range.2 hk)
    have e : (tg bks[j].last).getD k 0 = (tg bks[j].last)[k] := by rw [List.getD_eq_getElem?_getD, List.getElem?_eq_getElem hk]; rfl
    rw [e, blk_getD bks _ ht] at h2
    exact fitsB_sound (List.all_eq_true.1 h2 v hv)
end Code
end Go.Proofs.YtdffpkmabehfbaaDoor
