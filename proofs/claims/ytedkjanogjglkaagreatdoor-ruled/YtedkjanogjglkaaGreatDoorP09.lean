/-
  Parts of the proof: RScan, RDoc, RText, RRep, ROper, RefNum, RefOps, RefLines, RefSigned.
-/
import Derived.Test.YtedkjanogjglkaaGreatDoorP02
import Derived.Test.YtedkjanogjglkaaGreatDoorP08
import Derived.Test.YtedkjanogjglkaaGreatDoorP01
namespace Go.Proofs.YtedkjanogjglkaaGreatDoor
open Go.RowKit
def FailsAt (w : World) (rb : Nat) (l why : Int) (e : Ending) (w' : World) : Prop :=
 e = .panicked [{ v := .iface 61 (.agg #[.int .i64 why, .int .i64 l]), recovered := false }] ∧ w.grownBy w' (some rb)
set_option maxRecDepth 100000 in
set_option maxHeartbeats 1000000 in
theorem giveUp_at (rb : Nat) (T : TypeId) (s : List UInt8) (l why a : Int) (X : List Value) (w : World) (hr : Rd w rb T s l why X) :
  Calls Tryz.prog 99 #[.pointer (some ⟨rb, 0, none⟩), .int .i64 a] w fun e w' => FailsAt w rb l a e w' := by
 have c1 := hr.c1
 go_enter Tryz.func99, Tryz.ntmps99
 go_wp2
 exact ⟨rfl, rfl, grown_refl _ _⟩
set_option maxRecDepth 100000 in
set_option maxHeartbeats 1000000 in
theorem fail_at (rb : Nat) (T : TypeId) (s : List UInt8) (l why : Int) (X : List Value) (w : World) (hr : Rd w rb T s l why X) :
  Calls Tryz.prog 59 #[.pointer (some ⟨rb, 0, none⟩)] w fun e w' => FailsAt w rb l why e w' := by
 have c1 := hr.c1
 have c2 := hr.c2
 go_enter Tryz.func59, Tryz.ntmps59
 go_wp2_with fail
 refine (giveUp_at rb T s l why why X w hr).mono ?_
 rintro e w' ⟨rfl, hg⟩
 go_wp2
 exact ⟨rfl, rfl, hg⟩
set_option maxRecDepth 100000 in
set_option maxHeartbeats 1000000 in
theorem take_at (rb : Nat) (T : TypeId) (s p : List UInt8) (l why : Int) (X : List Value) (w : World) (hr : Rd w rb T s l why X) (hs : s.length ≤ 3000) (hp : p.length ≤ 3000) :
  Calls Tryz.prog 101 #[.pointer (some ⟨rb, 0, none⟩), .string (bs p)] w fun e w' =>
   (∃ r, Code.cut p s = some r ∧ e = .returned (.tuple #[]) ∧ Rd w' rb T r l why X ∧ w.grownBy w' (some rb)) ∨ (Code.cut p s = none ∧ FailsAt w rb l why e w') := by
 cases hc : Code.cut p s with
 | none =>
  have HC := hide hc
  clear hc
  go_enter Tryz.func101, Tryz.ntmps101
  go_wp2_with fail
  refine (skip_any rb T s p l why X w hr hs hp).mono ?_
  rw [HC.out]
  rintro e w' ⟨rfl, hr', hg⟩
  go_wp2_with fail
  refine (fail_at rb T _ l why X w' hr').mono ?_
  rintro e w'' ⟨rfl, hg'⟩
  go_wp2
  exact ⟨rfl, Or.inr ⟨by simp, rfl, grown_trans hg hg'⟩⟩
 | some r =>
  have HC := hide hc
  clear hc
  go_enter Tryz.func101, Tryz.ntmps101
  go_wp2_with fail
  refine (skip_any rb T s p l why X w hr hs hp).mono ?_
  rw [HC.out]
  rintro e w' ⟨rfl, hr', hg⟩
  go_wp2
  go_end0
  exact Or.inl ⟨r, rfl, rfl, hr', hg⟩
set_option maxRecDepth 100000 in
set_option maxHeartbeats 1000000 in
theorem number_noAt (rb : Nat) (T : TypeId) (s : List UInt8) (l why : Int) (X : List Value) (w : World) (hr : Rd w rb T s l why X) (hs : s.length ≤ 3000) (hb : Code.badDigits (Code.run 48 57 s)) :
  Calls Tryz.prog 158 #[.pointer (some ⟨rb, 0, none⟩)] w fun e w' => FailsAt w rb l why e w' := by
 have hrun := run_any rb T s 48 57 l why X w hr hs
 have hlen := Code.run_length 48 57 s
 generalize Code.run 48 57 s = d at *
 generalize Code.rest 48 57 s = t at *
 have e1 := bs_size d
 have hz : (((bs d).toList == []) = true ∧ True ∧ True) ∨ (((bs d).toList == []) = false ∧ 10 < (d.length : Int) ∧ True) ∨
   (∃ b4 : 0 < (bs d).size, ((bs d).toList == []) = false ∧ ¬ 10 < (d.length : Int) ∧ (((bs d)[0]'b4).toNat : Int) = 48 ∧ ((bs d).toList == [48]) = false) := by
  by_cases b1 : d = []
  ·exact Or.inl ⟨toList_yes (by rw [bl_bs]; exact b1), trivial, trivial⟩
  ·have q1 : ((bs d).toList == []) = false := toList_no (by rw [bl_bs]; exact b1)
   by_cases b2 : 10 < d.length
   ·exact Or.inr (Or.inl ⟨q1, by omega, trivial⟩)
   ·rcases hb with h | h | ⟨h, h'⟩
    ·exact absurd h b1
    ·exact absurd h b2
    ·have b3 : 0 < d.length := List.length_pos_iff.2 b1
     refine Or.inr (Or.inr ⟨by omega, q1, by omega, ?_, toList_no (by rw [bl_bs]; exact h')⟩)
     rw [bs_get d 0 b3]
     rw [List.head?_eq_getElem?, List.getElem?_eq_getElem b3] at h
     exact congrArg (fun c : UInt8 => (c.toNat : Int)) (Option.some.inj h)
 clear hb
 rcases hz with ⟨q1, q2, q3⟩ | ⟨q1, q2, q3⟩ | ⟨b4, q1, q2, q3, q4⟩
 all_goals
  go_enter Tryz.func158, Tryz.ntmps158
  go_wp2_with fail
  refine hrun.mono ?_
  rintro e w' ⟨rfl, hr', hg⟩
  go_wp2_with fail
  refine (fail_at rb T _ l why X w' hr').mono ?_
  rintro e w'' ⟨rfl, hg'⟩
  go_wp2
  exact ⟨rfl, rfl, grown_trans hg hg'⟩
set_option maxRecDepth 100000 in
set_option maxHeartbeats 1000000 in
theorem number_at (rb : Nat) (T : TypeId) (s : List UInt8) (l why : Int) (X : List Value) (w : World) (hr : Rd w rb T s l why X) (hs : s.length ≤ 3000) :
  Calls Tryz.prog 158 #[.pointer (some ⟨rb, 0, none⟩)] w fun e w' =>
   (∃ n t, Code.number s = some (n, t) ∧ e = .returned (.int .i64 (n : Nat)) ∧ Rd w' rb T t l why X ∧ w.grownBy w' (some rb)) ∨ (Code.number s = none ∧ FailsAt w rb l why e w') := by
 by_cases hb : Code.badDigits (Code.run 48 57 s)
 ·refine (number_noAt rb T s l why X w hr hs hb).mono ?_
  intro e w' h
  exact Or.inr ⟨by simp [Code.number, hb], h⟩
 ·refine (number_yes rb T s l why X w hr hs hb).mono ?_
  rintro e w' ⟨rfl, h, hg⟩
  exact Or.inl ⟨_, _, by simp only [Code.number, if_neg hb], rfl, h, hg⟩
set_option maxRecDepth 100000 in
set_option maxHeartbeats 1000000 in
theorem signed_at (rb : Nat) (T : TypeId) (s : List UInt8) (l why : Int) (X : List Value) (w : World) (hr : Rd w rb T s l why X) (hs : s.length ≤ 3000) :
  Calls Tryz.prog 193 #[.pointer (some ⟨rb, 0, none⟩)] w fun e w' =>
   (∃ n t, Code.signed s = some (n, t) ∧ e = .returned (.int .i32 n) ∧ Rd w' rb T t l why X ∧ w.grownBy w' (some rb)) ∨ (Code.signed s = none ∧ FailsAt w rb l why e w') := by
 cases hc : Code.cut [45] s with
 | none =>
  have HC := hide hc
  have HS : Hid (Code.signed s = (Code.number s).bind (Code.signedOf false)) := by simp [Hid, Code.signed, hc]
  clear hc
  go_enter Tryz.func193, Tryz.ntmps193
  go_wp2_with fail
  refine (skip_any rb T s [45] l why X w hr hs (by simp)).mono ?_
  rw [HC.out]
  rintro e w1 ⟨rfl, hr1, hg1⟩
  go_wp2_with fail
  refine (number_at rb T s l why X w1 hr1 hs).mono ?_
  rintro e w2 (⟨n, t, hn, rfl, hr2, hg2⟩ | ⟨hn, rfl, hg2⟩)
  ·have hb := (Code.number_some hn).1
   have HN := hide hn
   clear hn
   by_cases hbig : (2147483647 : Int) < (n : Int)
   ·have HB : Hid (Code.signed s = none) := by rw [HS.out, HN.out]; exact Code.signedOf_plus_big (by omega)
    go_wp2_with fail
    refine (fail_at rb T _ l why X w2 hr2).mono ?_
    rintro e w3 ⟨rfl, hg3⟩
    go_wp2
    exact ⟨rfl, Or.inr ⟨HB.out, rfl, grown_trans hg1 (grown_trans hg2 hg3)⟩⟩
   ·have HB : Hid (Code.signed s = some ((n : Int), t)) := by rw [HS.out, HN.out]; exact Code.signedOf_plus (by omega)
    go_wp2
    go_ret
    exact Or.inl ⟨n, t, HB.out, rfl, hr2, grown_trans hg1 hg2⟩
  ·go_wp2
   exact ⟨rfl, Or.inr ⟨by rw [HS.out, hn]; rfl, rfl, grown_trans hg1 hg2⟩⟩
 | some r =>
  have HC := hide hc
  have HS : Hid (Code.signed s = (Code.number r).bind (Code.signedOf true)) := by simp [Hid, Code.signed, hc]
  have hrl : r.length ≤ 3000 := by rw [Code.cut_some hc] at hs; simp at hs; omega
  clear hc
  go_enter Tryz.func193, Tryz.ntmps193
  go_wp2_with fail
  refine (skip_any rb T s [45] l why X w hr hs (by simp)).mono ?_
  rw [HC.out]
  rintro e w1 ⟨rfl, hr1, hg1⟩
  go_wp2_with fail
  refine (number_at rb T r l why X w1 hr1 hrl).mono ?_
  rintro e w2 (⟨n, t, hn, rfl, hr2, hg2⟩ | ⟨hn, rfl, hg2⟩)
  ·have hb := (Code.number_some hn).1
   have HN := hide hn
   clear hn
   by_cases hz : n = 0
   ·have HB : Hid (Code.signed s = none) := by rw [HS.out, HN.out]; exact Code.signedOf_zero hz
    have hz' : ((n : Int) == 0) = true := by simp [hz]
    clear hz
    go_wp2_with fail
    refine (fail_at rb T _ l why X w2 hr2).mono ?_
    rintro e w3 ⟨rfl, hg3⟩
    go_wp2
    exact ⟨rfl, Or.inr ⟨HB.out, rfl, grown_trans hg1 (grown_trans hg2 hg3)⟩⟩
   ·have hz' : ((n : Int) == 0) = false := beq_eq_false_iff_ne.2 (by omega)
    by_cases hbig : 2147483648 < n
    ·have HB : Hid (Code.signed s = none) := by rw [HS.out, HN.out]; exact Code.signedOf_minus_big hbig
     have hq : -(n : Int) < -2147483648 := by omega
     clear hz hbig
     go_wp2_with fail
     refine (fail_at rb T _ l why X w2 hr2).mono ?_
     rintro e w3 ⟨rfl, hg3⟩
     go_wp2
     exact ⟨rfl, Or.inr ⟨HB.out, rfl, grown_trans hg1 (grown_trans hg2 hg3)⟩⟩
    ·have HB : Hid (Code.signed s = some (-(n : Int), t)) := by rw [HS.out, HN.out]; exact Code.signedOf_minus (by omega) (by omega)
     have hq : ¬ -(n : Int) < -2147483648 := by omega
     have hq' : ¬ 2147483647 < -(n : Int) := by omega
     clear hz
     go_wp2
     go_ret
     exact Or.inl ⟨_, t, HB.out, rfl, hr2, grown_trans hg1 hg2⟩
  ·go_wp2
   exact ⟨rfl, Or.inr ⟨by rw [HS.out, hn]; rfl, rfl, grown_trans hg1 hg2⟩⟩
end Go.Proofs.YtedkjanogjglkaaGreatDoor
namespace Go.Proofs.YtedkjanogjglkaaGreatDoor.Code
def doomed (p : RTree × List UInt8) : Bool := match p.1 with
 | .num _ => p.2.head? == some 45
 | _ => false
def atomQ (s : List UInt8) : Option (RTree × List UInt8) := (atomP s).filter fun p => !doomed p
def treeQ (result : Bool) : Nat → List UInt8 → Option (RTree × List UInt8)
 | 0, s => if (cut [40] s).isSome = true then none else if result = true ∧ (cut [33, 40] s).isSome = true then none else atomQ s
 | d + 1, s => match cut [40] s with
  | some r => innerP (treeQ result d) .op r
  | none => match (if result = true then cut [33, 40] s else none) with
   | some r => innerP (treeQ result d) .fold r
   | none => atomQ s
theorem cut_head {c : UInt8} {s : List UInt8} (h : s.head? = some 45) (hc : c ≠ 45) : cut [c] s = none := by
 cases s with
 | nil => cases h
 | cons a s =>
  simp only [List.head?_cons, Option.some.injEq] at h
  subst h
  simp [cut, List.isPrefixOf, hc]
theorem doomed_head {p : RTree × List UInt8} (h : doomed p = true) : p.2.head? = some 45 := by
 unfold doomed at h
 split at h
 ·simpa using h
 ·cases h
theorem kids_doomed {f g : List UInt8 → Option (RTree × List UInt8)} (h : ∀ s, f s = (g s).filter fun p => !doomed p) : ∀ (n : Nat) (s : List UInt8),
  (kidsP f n s).bind (fun p => cut [41] p.2 |>.map fun r => (p.1, r)) = (kidsP g n s).bind (fun p => cut [41] p.2 |>.map fun r => (p.1, r))
 | 0, s => rfl
 | n + 1, s => by
  have ih := kids_doomed h n
  simp only [kidsP]
  cases hc : cut [32] s with
  | none => rfl
  | some r =>
   simp only [Option.bind_some]
   rw [h]
   cases hg : g r with
   | none => rfl
   | some p =>
    by_cases hd : doomed p = true
    ·have hh := doomed_head hd
     have e : Option.filter (fun p => !doomed p) (some p) = none := by simp [hd]
     rw [e]
     simp only [Option.bind_none, Option.bind_some]
     cases n with
     | zero => simp [kidsP, cut_head (c := 41) hh (by decide)]
     | succ n => simp [kidsP, cut_head (c := 32) hh (by decide)]
    ·have hd' : doomed p = false := by simpa using hd
     have e : Option.filter (fun p => !doomed p) (some p) = some p := by simp [hd']
     rw [e]
     simp only [Option.bind_some]
     have := ih p.2
     cases h1 : kidsP f n p.2 with
     | none =>
      rw [h1] at this
      simp only [Option.bind_none] at this
      cases h2 : kidsP g n p.2 with
      | none => rfl
      | some q =>
       rw [h2] at this
       simp only [Option.bind_some] at this
       simp only [Option.map_none, Option.bind_none, Option.map_some, Option.bind_some]
       cases h3 : cut [41] q.2 with
       | none => rfl
       | some t => rw [h3] at this; cases this
     | some q' =>
      rw [h1] at this
      simp only [Option.bind_some] at this
      cases h2 : kidsP g n p.2 with
      | none =>
       rw [h2] at this
       simp only [Option.bind_none] at this
       simp only [Option.map_none, Option.bind_none, Option.map_some, Option.bind_some]
       cases h3 : cut [41] q'.2 with
       | none => rfl
       | some t => rw [h3] at this; cases this
      | some q =>
       rw [h2] at this
       simp only [Option.bind_some] at this
       simp only [Option.map_some, Option.bind_some]
       cases h3 : cut [41] q.2 with
       | none =>
        rw [h3] at this
        cases h4 : cut [41] q'.2 with
        | none => rfl
        | some t => rw [h4] at this; cases this
       | some t =>
        rw [h3] at this
        cases h4 : cut [41] q'.2 with
        | none => rw [h4] at this; cases this
        | some t' =>
         rw [h4] at this
         simp only [Option.map_some, Option.some.injEq, Prod.mk.injEq] at this
         simp [this]
theorem inner_doomed {f g : List UInt8 → Option (RTree × List UInt8)} (h : ∀ s, f s = (g s).filter fun p => !doomed p) (mk : Nat → List RTree → RTree) (s : List UInt8) : innerP f mk s = innerP g mk s := by
 unfold innerP
 cases opNamed (word s) with
 | none => rfl
 | some k =>
  simp only [Option.bind_some]
  have e := kids_doomed h (opOf k) (behind s)
  have e' := congrArg (Option.map fun p : List RTree × List UInt8 => (mk k p.1, p.2)) e
  simp only [Option.map_bind, Function.comp_def, Option.map_map] at e'
  exact e'
theorem filter_op {f : List UInt8 → Option (RTree × List UInt8)} {mk : Nat → List RTree → RTree} (hm : ∀ k l r, doomed (mk k l, r) = false) (s : List UInt8) : (innerP f mk s).filter (fun p => !doomed p) = innerP f mk s := by
 cases h : innerP f mk s with
 | none => rfl
 | some p =>
  simp only [innerP, Option.bind_eq_some_iff, Option.map_eq_some_iff] at h
  obtain ⟨k, _, q, _, v, _, rfl⟩ := h
  simp [hm]
theorem treeQ_same (result : Bool) : ∀ (d : Nat) (s : List UInt8), treeQ result d s = (treeP result d s).filter fun p => !doomed p
 | 0, s => by
  simp only [treeQ, treeP]
  split
  ·rfl
  ·split
   ·rfl
   ·rfl
 | d + 1, s => by
  have ih := treeQ_same result d
  simp only [treeQ, treeP]
  cases cut [40] s with
  | some r =>
   simp only
   rw [filter_op (fun k l r => rfl)]
   exact inner_doomed ih _ r
  | none =>
   simp only
   generalize (if result = true then cut [33, 40] s else none) = o
   cases o with
   | some r =>
    simp only
    rw [filter_op (fun k l r => rfl)]
    exact inner_doomed ih _ r
   | none => rfl
def lineQ (e : Nat) (s : List UInt8) : Option (RTree × RTree) :=
 ((cut [40] s).bind fun r => innerP (treeQ false e) .op r).bind fun p => (cut [32, 61, 62, 32] p.2).bind fun r => (treeQ true (e + 1) r).bind fun q => if q.2 = [] then some (p.1, q.1) else none
theorem lineQ_same {e : Nat} (he : 3 ≤ e) (s : List UInt8) (n r : RTree) : lineP s = some (n, r) ↔ lineQ e s = some (n, r) ∧ n.depth ≤ 4 ∧ r.depth ≤ 4 := by
 have hN : ∀ (t : RTree) (u : List UInt8), nodeP s = some (t, u) ↔ ((cut [40] s).bind fun r => innerP (treeQ false e) .op r) = some (t, u) ∧ t.depth ≤ 4 := by
  intro t u
  unfold nodeP
  cases cut [40] s with
  | none => simp
  | some a =>
   simp only [Option.bind_some]
   rw [inner_doomed (treeQ_same false e)]
   exact innerP_same (treeP_same false 3 e he) (fun k l => by simp [RTree.depth]) a t u
 have hR : ∀ (a : List UInt8) (t : RTree), treeP true 4 a = some (t, []) ↔ treeQ true (e + 1) a = some (t, []) ∧ t.depth ≤ 4 := by
  intro a t
  rw [treeP_same true 4 (e + 1) (by omega), treeQ_same]
  cases h : treeP true (e + 1) a with
  | none => simp
  | some q =>
   by_cases hd : doomed q = true
   ·have e : Option.filter (fun p => !doomed p) (some q) = none := by simp [hd]
    rw [e]
    simp only [Option.some.injEq, reduceCtorEq, false_and, iff_false]
    rintro ⟨rfl, _⟩
    have := doomed_head hd
    simp at this
   ·have hd' : doomed q = false := by simpa using hd
    have e : Option.filter (fun p => !doomed p) (some q) = some q := by simp [hd']
    rw [e]
 simp only [lineP, lineQ, Option.bind_eq_some_iff]
 constructor
 ·rintro ⟨p, hp, a, ha, q, hq, h⟩
  split at h
  ·rename_i hq2
   simp only [Option.some.injEq, Prod.mk.injEq] at h
   obtain ⟨rfl, rfl⟩ := h
   obtain ⟨h1, h2⟩ := (hN p.1 p.2).1 hp
   rcases q with ⟨q1, q2⟩
   simp only at hq2
   subst hq2
   obtain ⟨h3, h4⟩ := (hR a q1).1 hq
   simp only [Option.bind_eq_some_iff] at h1
   exact ⟨⟨p, h1, a, ha, (q1, []), h3, by simp⟩, h2, h4⟩
  ·cases h
 ·rintro ⟨⟨p, hp, a, ha, q, hq, h⟩, h2, h4⟩
  split at h
  ·rename_i hq2
   simp only [Option.some.injEq, Prod.mk.injEq] at h
   obtain ⟨rfl, rfl⟩ := h
   rcases q with ⟨q1, q2⟩
   simp only at hq2
   subst hq2
   refine ⟨p, (hN p.1 p.2).2 ⟨?_, h2⟩, a, ha, (q1, []), (hR a q1).2 ⟨hq, h4⟩, by simp⟩
   simp only [Option.bind_eq_some_iff]
   exact hp
  ·cases h
def idle (s : List UInt8) : Prop := s = [] ∨ s.head? = some 59
instance (s : List UInt8) : Decidable (idle s) := by unfold idle; infer_instance
def headOf (s : List UInt8) : List UInt8 := s.takeWhile (· != 10)
def nextOf (s : List UInt8) : List UInt8 := (s.dropWhile (· != 10)).tail
inductive RulesS : Nat → List UInt8 → Except (Nat × Int) (List CRule) → Prop
 | done {n : Nat} : RulesS n [] (.ok [])
 | open_ {n : Nat} {s : List UInt8} : s ≠ [] → 10 ∉ s → RulesS n s (.error (n, 6))
 | idle {n : Nat} {s : List UInt8} {o : Except (Nat × Int) (List CRule)} : 10 ∈ s → idle (headOf s) → RulesS (n + 1) (nextOf s) o → RulesS n s o
 | bad {n : Nat} {s : List UInt8} {e : Int} : 10 ∈ s → ¬ Code.idle (headOf s) → lineS (headOf s) = .error e → RulesS n s (.error (n, e))
 | more {n : Nat} {s : List UInt8} {nd rs : RTree} {ns : List Nm} {o : Except (Nat × Int) (List CRule)} : 10 ∈ s → ¬ Code.idle (headOf s) → lineS (headOf s) = .ok (nd, rs, ns) → RulesS (n + 1) (nextOf s) o →
   RulesS n s (o.map fun l => ⟨nd, rs, ns⟩ :: l)
inductive RulesOf : Nat → List UInt8 → Except (Nat × Int) (List (RTree × RTree)) → Prop
 | done {n : Nat} : RulesOf n [] (.ok [])
 | open_ {n : Nat} {s : List UInt8} : s ≠ [] → 10 ∉ s → RulesOf n s (.error (n, 6))
 | idle {n : Nat} {s : List UInt8} {o : Except (Nat × Int) (List (RTree × RTree))} : 10 ∈ s → idle (headOf s) → RulesOf (n + 1) (nextOf s) o → RulesOf n s o
 | bad {n : Nat} {s : List UInt8} {e : Int} : 10 ∈ s → ¬ Code.idle (headOf s) → LineOf (headOf s) (.error e) → RulesOf n s (.error (n, e))
 | more {n : Nat} {s : List UInt8} {nd rs : RTree} {o : Except (Nat × Int) (List (RTree × RTree))} : 10 ∈ s → ¬ Code.idle (headOf s) → LineOf (headOf s) (.ok (nd, rs)) → RulesOf (n + 1) (nextOf s) o →
   RulesOf n s (o.map fun l => (nd, rs) :: l)
def bare (r : CRule) : RTree × RTree := (r.node, r.result)
theorem RulesS.of {n : Nat} {s : List UInt8} {o : Except (Nat × Int) (List CRule)} (h : RulesS n s o) : RulesOf n s (o.map fun l => l.map bare) := by
 induction h with
 | done => exact .done
 | open_ h1 h2 => exact .open_ h1 h2
 | idle h1 h2 _ ih => exact .idle h1 h2 ih
 | bad h1 h2 h3 => exact .bad h1 h2 ((lineS_of _).1 _ h3)
 | @more n s nd rs ns o h1 h2 h3 _ ih =>
  have := RulesOf.more h1 h2 ((lineS_of _).2 _ _ _ h3) ih
  cases o with
  | error e => exact this
  | ok l => exact this
theorem nextOf_length : ∀ {s : List UInt8}, 10 ∈ s → (nextOf s).length < s.length ∧ s = headOf s ++ 10 :: nextOf s
 | [], h => by cases h
 | a :: s, h => by
  by_cases ha : a = 10
  ·subst ha
   simp [nextOf, headOf]
  ·have hm : 10 ∈ s := by
    rcases List.mem_cons.1 h with h | h
    ·exact absurd h.symm ha
    ·exact h
   have hb : (a != 10) = true := by simpa using ha
   obtain ⟨h1, h2⟩ := nextOf_length hm
   have e1 : nextOf (a :: s) = nextOf s := by unfold nextOf; rw [List.dropWhile_cons, if_pos hb]
   have e2 : headOf (a :: s) = a :: headOf s := by unfold headOf; rw [List.takeWhile_cons, if_pos hb]
   rw [e1, e2]
   refine ⟨by simp; omega, ?_⟩
   rw [List.cons_append, ← h2]
theorem rulesS_all : ∀ (k : Nat) (s : List UInt8) (n : Nat), s.length ≤ k → ∃ o, RulesS n s o
 | k, [], n, _ => ⟨_, .done⟩
 | 0, _ :: _, n, h => by simp at h
 | k + 1, a :: s, n, h => by
  by_cases h10 : 10 ∈ (a :: s)
  ·have hl := (nextOf_length h10).1
   obtain ⟨o, ho⟩ := rulesS_all k (nextOf (a :: s)) (n + 1) (by omega)
   by_cases hi : idle (headOf (a :: s))
   ·exact ⟨o, .idle h10 hi ho⟩
   ·cases hL : lineS (headOf (a :: s)) with
    | error e => exact ⟨_, .bad h10 hi hL⟩
    | ok p => exact ⟨_, .more (nd := p.1) (rs := p.2.1) (ns := p.2.2) h10 hi hL ho⟩
  ·exact ⟨_, .open_ (by simp) h10⟩
theorem RulesOf.det {n : Nat} {s : List UInt8} {a b : Except (Nat × Int) (List (RTree × RTree))} (ha : RulesOf n s a) (hb : RulesOf n s b) : a = b := by
 induction ha generalizing b with
 | done => cases hb with
  | done => rfl
  | open_ h => exact absurd rfl h
  | idle h => cases h
  | bad h => cases h
  | more h => cases h
 | open_ h1 h2 => cases hb with
  | done => exact absurd rfl h1
  | open_ => rfl
  | idle h => exact absurd h h2
  | bad h => exact absurd h h2
  | more h => exact absurd h h2
 | idle h1 h2 _ ih => cases hb with
  | done => cases h1
  | open_ _ h => exact absurd h1 h
  | idle _ _ h => exact ih h
  | bad _ h => exact absurd h2 h
  | more _ h => exact absurd h2 h
 | bad h1 h2 h3 => cases hb with
  | open_ _ h => exact absurd h1 h
  | done => cases h1
  | idle _ h => exact absurd h h2
  | bad _ _ h =>
   have := LineOf.det h3 h
   simp only [Except.error.injEq] at this
   rw [this]
  | more _ _ h => cases LineOf.det h3 h
 | more h1 h2 h3 _ ih => cases hb with
  | open_ _ h => exact absurd h1 h
  | done => cases h1
  | idle _ h => exact absurd h h2
  | bad _ _ h => cases LineOf.det h3 h
  | more _ _ h k =>
   have := LineOf.det h3 h
   simp only [Except.ok.injEq, Prod.mk.injEq] at this
   rw [this.1, this.2, ih k]
end Go.Proofs.YtedkjanogjglkaaGreatDoor.Code
namespace Go.Proofs.YtedkjanogjglkaaGreatDoor
open Go.RowKit
open Go.Proofs.YtedkjanogjglkaaGreatDoor.Code (RTree Nm RSt Prs)
structure Kin (w w' : World) (rb B : Nat) : Prop where
 os : w'.os = w.os
 tape : w'.tape = w.tape
 output : w'.output = w.output
 size : w.heap.size ≤ w'.heap.size
 block : ∀ k o, w.heap[k]? = some o → k ≠ rb → (k < B ∨ ∀ C z, o ≠ .cells C 315 z) → w'.heap[k]? = some o
theorem Kin.trans {a b c : World} {rb B : Nat} (h : Kin a b rb B) (k : Kin b c rb B) : Kin a c rb B :=
 ⟨k.os.trans h.os, k.tape.trans h.tape, k.output.trans h.output, Nat.le_trans h.size k.size, fun i o hi hn ht => k.block i o (h.block i o hi hn ht) hn ht⟩
theorem Kin.grown {w w' : World} {rb B : Nat} (h : w.grownBy w' (some rb)) : Kin w w' rb B :=
 ⟨h.os, h.tape, h.output, h.size, fun k _ hk hn _ => (h.block k (lt_of_block hk) (by simpa using hn)).trans hk⟩
theorem Kin.below {w w' : World} {rb B : Nat} (h : Below w.heap.size w w') : Kin w w' rb B :=
 ⟨h.os, h.tape, h.output, h.size, fun k _ hk _ _ => (h.block k (lt_of_block hk)).trans hk⟩
theorem Kin.drewN {w w' : World} {rb B : Nat} (h : Kin w w' rb B) (n : Nat) : Kin w (w'.drewN n) rb B := ⟨h.os, h.tape, h.output, h.size, h.block⟩
theorem Kin.alloc {w w' : World} {rb B : Nat} (h : Kin w w' rb B) (o : Obj) : Kin w (w'.alloc o) rb B :=
 ⟨h.os, h.tape, h.output, by have := h.size; simp; omega, fun k p hk hn ht => stay_alloc (h.block k p hk hn ht)⟩
theorem Kin.set_new {w w' : World} {rb B : Nat} (h : Kin w w' rb B) {b : Nat} (hb : w.heap.size ≤ b) (o : Nat) (v : Value) : Kin w (w'.setCell ⟨b, o, none⟩ v) rb B :=
 ⟨h.os, h.tape, h.output, by rw [size_set]; exact h.size, fun k p hk hn ht => stay_set (h.block k p hk hn ht) (by have := lt_of_block hk; show k ≠ b; omega)⟩
theorem Kin.tab {w w' : World} {rb B : Nat} (h : Kin w w' rb B) (hrb : 0 < rb) (hB : 0 < B) (ht : Tab w) : Tab w' := by
 intro j v hv
 have h1 := ht j v hv
 cases hh : w.heap[0]? with
 | none => simp [World.cell?, hh] at h1
 | some o =>
  have h2 := h.block 0 o hh (by omega) (Or.inl hB)
  simpa [World.cell?, h2, hh] using h1
def nmCells (l : List Nm) : List Value := l.flatMap fun p => [.string (bs p.1), .bool p.2]
theorem nmCells_snoc (l : List Nm) (p : Nm) : nmCells (l ++ [p]) = nmCells l ++ [.string (bs p.1), .bool p.2] := by simp [nmCells]
theorem nmCells_get (l : List Nm) (k : Nat) (h : k < l.length) : (nmCells l)[k * 2]? = some (.string (bs (l[k]).1)) ∧ (nmCells l)[k * 2 + 1]? = some (.bool (l[k]).2) := by
 induction l generalizing k with
 | nil => simp at h
 | cons p l ih =>
  cases k with
  | zero => simp [nmCells]
  | succ k =>
   obtain ⟨h1, h2⟩ := ih k (by simpa using h)
   simp only [nmCells, List.flatMap_cons, List.getElem_cons_succ] at *
   rw [show (k + 1) * 2 = k * 2 + 2 by omega, show k * 2 + 2 + 1 = k * 2 + 1 + 2 by omega]
   exact ⟨by simpa using h1, by simpa using h2⟩
def Rdr (w : World) (rb B : Nat) (s : List UInt8) (l : Int) (st : RSt) : Prop :=
 ∃ nv, Rd w rb 115 s l 6 [nv, .bool st.unbound] ∧ w.ownsRow B 315 2 nv st.names.length (nmCells st.names)
theorem Rdr.grown {w w' : World} {rb B : Nat} {s : List UInt8} {l : Int} {st : RSt} {nv : Value} (hr : Rd w rb 115 s l 6 [nv, .bool st.unbound]) (ho : w.ownsRow B 315 2 nv st.names.length (nmCells st.names)) {s' : List UInt8}
  (hr' : Rd w' rb 115 s' l 6 [nv, .bool st.unbound]) (hg : w.grownBy w' (some rb)) : Rdr w' rb B s' l st := ⟨nv, hr', own_kept hr hg ho (by decide)⟩
def FailsK (w : World) (rb B : Nat) (l why : Int) (e : Ending) (w' : World) : Prop :=
 e = .panicked [{ v := .iface 61 (.agg #[.int .i64 why, .int .i64 l]), recovered := false }] ∧ Kin w w' rb B
theorem FailsAt.kin {w w' : World} {rb : Nat} {B : Nat} {l why : Int} {e : Ending} (h : FailsAt w rb l why e w') : FailsK w rb B l why e w' := ⟨h.1, Kin.grown h.2⟩
mutual
def RepT (w : World) (base : Nat) (res : Bool) (L : Int → Nm → Prop) : Value → RTree → Prop
 | v, .name x => ∃ i : Int, v = .iface 225 (.agg #[.int .i64 i]) ∧ L i (x, false)
 | v, .hash x => ∃ i : Int, v = .iface 316 (.agg #[.int .i64 i]) ∧ L i (x, true)
 | v, .num c => v = .iface 313 (.agg #[.int .i32 c]) ∧ -2147483648 ≤ c ∧ c ≤ 2147483647
 | v, .op k kids => ∃ sv vs, v = .iface (if res = true then 271 else 119) (.agg #[.int .i64 (k : Nat), sv]) ∧ k < 13 ∧ vs.length = Code.opOf k ∧ w.ownsRow base (if res = true then 121 else 262) 1 sv vs.length vs ∧ RepTs w base res L vs kids
 | v, .fold k kids => ∃ sv vs, v = .iface 266 (.agg #[.int .i64 (k : Nat), sv]) ∧ k < 13 ∧ vs.length = Code.opOf k ∧ w.ownsRow base 121 1 sv vs.length vs ∧ RepTs w base res L vs kids
def RepTs (w : World) (base : Nat) (res : Bool) (L : Int → Nm → Prop) : List Value → List RTree → Prop
 | [], [] => True
 | v :: vs, t :: ts => RepT w base res L v t ∧ RepTs w base res L vs ts
 | _, _ => False
end
def KeepsT (w w' : World) (base : Nat) : Prop := ∀ (b : Nat) (C : Array Value) (T : TypeId) (z : Nat × Nat), w.heap[b]? = some (.cells C T z) → T = 262 ∨ T = 121 → base ≤ b → w'.heap[b]? = some (.cells C T z)
theorem KeepsT.own {w w' : World} {base : Nat} (h : KeepsT w w' base) {e size n : Nat} {v : Value} {xs : List Value} (he : e = 262 ∨ e = 121) (ho : w.ownsRow base e size v n xs) : w'.ownsRow base e size v n xs := by
 refine ⟨ho.1, ?_⟩
 rcases ho.2 with h0 | ⟨g, cap, cur, hv, hbg, hgg, r⟩
 ·exact Or.inl h0
 ·exact Or.inr ⟨g, cap, cur, hv, hbg, h g _ _ _ hgg he hbg, r⟩
mutual
theorem RepT.kept {w w' : World} {base base' : Nat} {res : Bool} {L L' : Int → Nm → Prop} (hk : KeepsT w w' base) (hb : base' ≤ base) (hL : ∀ i p, L i p → L' i p) : ∀ (t : RTree) (v : Value), RepT w base res L v t → RepT w' base' res L' v t
 | .name x, v, h => by
  obtain ⟨i, h1, h2⟩ := h
  exact ⟨i, h1, hL _ _ h2⟩
 | .hash x, v, h => by
  obtain ⟨i, h1, h2⟩ := h
  exact ⟨i, h1, hL _ _ h2⟩
 | .num c, v, h => h
 | .op k kids, v, h => by
  obtain ⟨sv, vs, h1, h2, h3, h4, h5⟩ := h
  refine ⟨sv, vs, h1, h2, h3, own_base (hk.own ?_ h4) hb, RepTs.kept hk hb hL kids vs h5⟩
  cases res
  ·exact Or.inl rfl
  ·exact Or.inr rfl
 | .fold k kids, v, h => by
  obtain ⟨sv, vs, h1, h2, h3, h4, h5⟩ := h
  exact ⟨sv, vs, h1, h2, h3, own_base (hk.own (Or.inr rfl) h4) hb, RepTs.kept hk hb hL kids vs h5⟩
theorem RepTs.kept {w w' : World} {base base' : Nat} {res : Bool} {L L' : Int → Nm → Prop} (hk : KeepsT w w' base) (hb : base' ≤ base) (hL : ∀ i p, L i p → L' i p) : ∀ (ts : List RTree) (vs : List Value), RepTs w base res L vs ts → RepTs w' base' res L' vs ts
 | [], [], _ => trivial
 | t :: ts, v :: vs, h => ⟨RepT.kept hk hb hL t v h.1, RepTs.kept hk hb hL ts vs h.2⟩
 | [], _ :: _, h => h.elim
 | _ :: _, [], h => h.elim
end
theorem RepTs.length {w : World} {base : Nat} {res : Bool} {L : Int → Nm → Prop} : ∀ {vs : List Value} {ts : List RTree}, RepTs w base res L vs ts → vs.length = ts.length
 | [], [], _ => rfl
 | _ :: _, _ :: _, h => by simp [RepTs.length h.2]
 | [], _ :: _, h => h.elim
 | _ :: _, [], h => h.elim
theorem RepTs.snoc {w : World} {base : Nat} {res : Bool} {L : Int → Nm → Prop} : ∀ {vs : List Value} {ts : List RTree} {v : Value} {t : RTree}, RepTs w base res L vs ts → RepT w base res L v t → RepTs w base res L (vs ++ [v]) (ts ++ [t])
 | [], [], _, _, _, h => ⟨h, trivial⟩
 | _ :: _, _ :: _, _, _, h, k => ⟨h.1, RepTs.snoc h.2 k⟩
 | [], _ :: _, _, _, h, _ => h.elim
 | _ :: _, [], _, _, h, _ => h.elim
theorem Kin.keeps {w w' : World} {rb B base : Nat} (h : Kin w w' rb B) {s : List UInt8} {l : Int} {X : List Value} (hb : Rd w rb 115 s l 6 X) : KeepsT w w' base := by
 intro b C T z hc hT _
 refine h.block b _ hc ?_ (Or.inr ?_)
 ·rintro rfl
  unfold Rd at hb
  rw [hb] at hc
  simp only [Option.some.injEq, Obj.cells.injEq] at hc
  rcases hT with rfl | rfl
  ·exact absurd hc.2.1 (by decide)
  ·exact absurd hc.2.1 (by decide)
 ·intro C' z' hh
  simp only [Obj.cells.injEq] at hh
  rcases hT with rfl | rfl
  ·exact absurd hh.2.1 (by decide)
  ·exact absurd hh.2.1 (by decide)
theorem keeps_set {w : World} {base b o : Nat} {v : Value} (h : b < base) : KeepsT w (w.setCell ⟨b, o, none⟩ v) base :=
 fun k _ _ _ hc _ hk => stay_set hc (by show k ≠ b; omega)
theorem keeps_refl (w : World) (base : Nat) : KeepsT w w base := fun _ _ _ _ hc _ _ => hc
def LP (st : RSt) (i : Int) (p : Nm) : Prop := ∃ k : Nat, i = k ∧ st.names[k]? = some p
def LR (st : RSt) (i : Int) (p : Nm) : Prop := i = match Code.slotOf st.names p with
 | some k => (k : Int)
 | none => -1
def TreePost (o : Option (RTree × RSt × List UInt8)) (w : World) (rb B : Nat) (l : Int) (res : Bool) (L : RSt → Int → Nm → Prop) (e : Ending) (w' : World) : Prop :=
 (∃ t st r v, o = some (t, st, r) ∧ e = .returned v ∧ Rdr w' rb B r l st ∧ RepT w' w.heap.size res (L st) v t ∧ Kin w w' rb B) ∨ (o = none ∧ FailsK w rb B l 6 e w')
def operK (f : Prs) (st : RSt) (s : List UInt8) : Option (Nat × List RTree × RSt × List UInt8) :=
 (Code.cut [40] s).bind fun s => (Code.opNamed (Code.word s)).bind fun k => (Code.kidsS f (Code.opOf k) st (Code.behind s)).bind fun p => (Code.cut [41] p.2.2).map fun r => (k, p.1, p.2.1, r)
theorem operS_eq (f : Prs) (mk : Nat → List RTree → RTree) (st : RSt) (s : List UInt8) : Code.operS f mk st s = (operK f st s).map fun p => (mk p.1 p.2.1, p.2.2) := by
 unfold Code.operS operK
 cases Code.cut [40] s with
 | none => rfl
 | some r =>
  simp only [Option.bind_some]
  cases Code.opNamed (Code.word r) with
  | none => rfl
  | some k =>
   simp only [Option.bind_some]
   cases Code.kidsS f (Code.opOf k) st (Code.behind r) with
   | none => rfl
   | some p =>
    simp only [Option.bind_some]
    cases Code.cut [41] p.2.2 <;> rfl
def OperPost (o : Option (Nat × List RTree × RSt × List UInt8)) (w : World) (rb B : Nat) (l : Int) (res : Bool) (L : RSt → Int → Nm → Prop) (e : Ending) (w' : World) : Prop :=
 (∃ k ts st r sv vs, o = some (k, ts, st, r) ∧ k < 13 ∧ e = .returned (.tuple #[.int .i64 (k : Nat), sv]) ∧ Rdr w' rb B r l st ∧ vs.length = Code.opOf k ∧ w'.ownsRow w.heap.size (if res = true then 121 else 262) 1 sv vs.length vs ∧ RepTs w' w.heap.size res (L st) vs ts ∧ Kin w w' rb B) ∨ (o = none ∧ FailsK w rb B l 6 e w')
def Reads (K : Nat) (d : Int) (f : Prs) (res : Bool) (L : RSt → Int → Nm → Prop) : Prop :=
 ∀ (rb B : Nat) (s : List UInt8) (l : Int) (st : RSt) (w : World), Rdr w rb B s l st → s.length ≤ 3000 → st.names.length + s.length ≤ 6000 → Tab w → 0 < rb → 0 < B → B ≤ w.heap.size →
  Calls Tryz.prog K #[.pointer (some ⟨rb, 0, none⟩), .int .i64 d] w fun e w' => TreePost (f st s) w rb B l res L e w'
theorem take_rdr (rb B : Nat) (s p : List UInt8) (l : Int) (st : RSt) (w : World) (hr : Rdr w rb B s l st) (hs : s.length ≤ 3000) (hp : p.length ≤ 3000) :
  Calls Tryz.prog 101 #[.pointer (some ⟨rb, 0, none⟩), .string (bs p)] w fun e w' =>
   (∃ r, Code.cut p s = some r ∧ e = .returned (.tuple #[]) ∧ Rdr w' rb B r l st ∧ w.grownBy w' (some rb)) ∨ (Code.cut p s = none ∧ FailsK w rb B l 6 e w') := by
 obtain ⟨nv, h1, h2⟩ := hr
 refine (take_at rb _ s p l 6 _ w h1 hs hp).mono ?_
 rintro e w' (⟨r, h3, h4, h5, h6⟩ | ⟨h3, h4⟩)
 ·exact Or.inl ⟨r, h3, h4, Rdr.grown h1 h2 h5 h6, h6⟩
 ·exact Or.inr ⟨h3, h4.kin⟩
theorem skip_rdr (rb B : Nat) (s p : List UInt8) (l : Int) (st : RSt) (w : World) (hr : Rdr w rb B s l st) (hs : s.length ≤ 3000) (hp : p.length ≤ 3000) :
  Calls Tryz.prog 148 #[.pointer (some ⟨rb, 0, none⟩), .string (bs p)] w fun e w' =>
   e = .returned (.bool (Code.cut p s).isSome) ∧ Rdr w' rb B ((Code.cut p s).getD s) l st ∧ w.grownBy w' (some rb) := by
 obtain ⟨nv, h1, h2⟩ := hr
 refine (skip_any rb _ s p l 6 _ w h1 hs hp).mono ?_
 rintro e w' ⟨h3, h4, h5⟩
 exact ⟨h3, Rdr.grown h1 h2 h4 h5, h5⟩
theorem letters_rdr (rb B : Nat) (s : List UInt8) (l : Int) (st : RSt) (w : World) (hr : Rdr w rb B s l st) (hs : s.length ≤ 3000) :
  Calls Tryz.prog 187 #[.pointer (some ⟨rb, 0, none⟩)] w fun e w' =>
   e = .returned (.string (bs (Code.word s))) ∧ Rdr w' rb B (Code.behind s) l st ∧ w.grownBy w' (some rb) := by
 obtain ⟨nv, h1, h2⟩ := hr
 refine (letters_any rb _ s l 6 _ w h1 hs).mono ?_
 rintro e w' ⟨h3, h4, h5⟩
 exact ⟨h3, Rdr.grown h1 h2 h4 h5, h5⟩
theorem fail_rdr (rb B : Nat) (s : List UInt8) (l : Int) (st : RSt) (w : World) (hr : Rdr w rb B s l st) :
  Calls Tryz.prog 59 #[.pointer (some ⟨rb, 0, none⟩)] w fun e w' => FailsK w rb B l 6 e w' := by
 obtain ⟨nv, h1, h2⟩ := hr
 refine (fail_at rb _ s l 6 _ w h1).mono ?_
 intro e w' h
 exact h.kin
theorem Rdr.below {w w' : World} {rb B : Nat} {s : List UInt8} {l : Int} {st : RSt} (h : Rdr w rb B s l st) (hb : Below w.heap.size w w') : Rdr w' rb B s l st := by
 obtain ⟨nv, h1, h2⟩ := h
 exact ⟨nv, (hb.block rb (lt_of_block h1)).trans h1, own_below h2 hb⟩
theorem Rdr.rd {w : World} {rb B : Nat} {s : List UInt8} {l : Int} {st : RSt} (h : Rdr w rb B s l st) : ∃ X, Rd w rb 115 s l 6 X := by
 obtain ⟨nv, h1, _⟩ := h
 exact ⟨_, h1⟩
theorem Rdr.set {w : World} {rb B : Nat} {s : List UInt8} {l : Int} {st : RSt} (h : Rdr w rb B s l st) {g o : Nat} {v : Value} {C : Array Value} {T : TypeId} {z : Nat × Nat} (hg : w.heap[g]? = some (.cells C T z)) (h1 : T ≠ 115) (h2 : T ≠ 315) : Rdr (w.setCell ⟨g, o, none⟩ v) rb B s l st := by
 obtain ⟨nv, h3, h4⟩ := h
 refine ⟨nv, stay_set h3 ?_, ?_⟩
 ·rintro rfl
  unfold Rd at h3
  rw [hg] at h3
  simp only [Option.some.injEq, Obj.cells.injEq] at h3
  exact h1 h3.2.1
 ·refine h4.kept (grown_set _ _ _ _) (Or.inr ?_)
  exact fun e => own_ne h4 hg h2 e.symm
theorem RepT.shape {w : World} {base : Nat} {res : Bool} {L : Int → Nm → Prop} {v : Value} {t : RTree} (h : RepT w base res L v t) : ∃ T x, v = .iface T x := by
 cases t with
 | name x => obtain ⟨i, rfl, _⟩ := h; exact ⟨_, _, rfl⟩
 | hash x => obtain ⟨i, rfl, _⟩ := h; exact ⟨_, _, rfl⟩
 | num c => obtain ⟨rfl, _⟩ := h; exact ⟨_, _, rfl⟩
 | op k kids => obtain ⟨sv, vs, rfl, _⟩ := h; exact ⟨_, _, rfl⟩
 | fold k kids => obtain ⟨sv, vs, rfl, _⟩ := h; exact ⟨_, _, rfl⟩
def kidRow (w : World) (g : Nat) (T : TypeId) (vs : List Value) (n : Nat) : Prop := w.heap[g]? = some (.cells (vs ++ List.replicate n Value.nilIface).toArray T)
theorem kidRow.set {w : World} {g : Nat} {T : TypeId} {vs : List Value} {n : Nat} (h : kidRow w g T vs (n + 1)) (v : Value) : kidRow (w.setCell ⟨g, vs.length, none⟩ v) g T (vs ++ [v]) n := by
 unfold kidRow
 rw [set_block h]
 congr 1
 simp only [List.setIfInBounds_toArray]
 congr 1
 rw [List.set_append_right _ _ (Nat.le_refl _), Nat.sub_self, List.replicate_succ, List.set_cons_zero]
 simp
theorem kidRow.own {w : World} {g base : Nat} {T : TypeId} {vs : List Value} {n : Nat} (h : kidRow w g T vs 0) (hb : base ≤ g) (hn : vs.length = n) (hm : n ≤ 100) : w.ownsRow base T 1 (.slice (some ⟨g, 0, none⟩) n n) vs.length vs := by
 subst hn
 unfold kidRow at h
 simp only [List.replicate_zero, List.append_nil] at h
 exact ⟨by simp, Or.inr ⟨g, vs.length, vs.toArray, rfl, hb, h, Nat.le_refl _, Nat.le_trans hm (by decide), by simp, by simp⟩⟩
end Go.Proofs.YtedkjanogjglkaaGreatDoor
namespace Go.Proofs.YtedkjanogjglkaaGreatDoor.D
open Go.RowKit
theorem numFold_take_lt (s : ByteArray) (k : Nat) (h2 : s.size ≤ 10) (h : ((bl s).take k).all Ref.isDig = true) : (Ref.numFold 0 ((bl s).take k) : Int) < 10000000000 := by
 have hb := Ref.numFold_lt _ h
 have h3 : ((bl s).take k).length ≤ 10 := by have := List.length_take_le' k (bl s); rw [bl_length] at this; omega
 have h4 : 10 ^ ((bl s).take k).length ≤ 10 ^ 10 := Nat.pow_le_pow_right (by omega) h3
 have h5 : (10 : Nat) ^ 10 = 10000000000 := by decide
 omega
set_option maxRecDepth 100000 in
set_option maxHeartbeats 400000 in
theorem number_loop (s : ByteArray) (w : World) (h1 : 1 ≤ s.size) (h2 : s.size ≤ 10) (h3 : s[0].toNat = 48 → s.size ≤ 1) :
  Calls Tryz.prog 87 #[.string s] w fun e w' => e = .returned (.int .i64 (Ref.numIn (bl s))) ∧ w' = w := by
 have hz : (s[0].toNat : Int) = 48 ∧ s.size ≤ 1 ∨ ¬ (s[0].toNat : Int) = 48 := by
  by_cases h : s[0].toNat = 48
  ·exact Or.inl ⟨by omega, h3 h⟩
  ·exact Or.inr (by omega)
 clear h3
 rcases hz with ⟨hz, h3⟩ | hz
 all_goals
  go_enter Tryz.func87, Tryz.ntmps87
  go_wp2
  go_loop [3, 4] (fun n i => ∃ k : Nat, k ≤ s.size ∧ i = .int .i64 k ∧ n = .int .i64 (Ref.numFold 0 ((bl s).take k) : Nat) ∧ Hid (((bl s).take k).all Ref.isDig = true)) (fun _ i => s.size - (intOf i).toNat)
  case atStart => exact ⟨0, Nat.zero_le _, rfl, rfl, rfl⟩
  case round =>
   obtain ⟨k, hk, rfl, rfl, hall⟩ := hrel
   have hb := numFold_take_lt s k h2 hall.out
   clear hz
   generalize hm : Ref.numFold 0 ((bl s).take k) = m at hb ⊢
   have HM := hide hm
   have HB := hide hb
   clear hm hb
   by_cases hlt : k < s.size
   ·have hmem : s[k] ∈ bl s := List.mem_of_getElem? (bl_get s k hlt)
    have hsn := Ref.numFold_snoc 0 ((bl s).take k) s[k]
    rw [← bl_take_succ s k hlt, HM.out] at hsn
    have hal : ((bl s).take (k + 1)).all Ref.isDig = (((bl s).take k).all Ref.isDig && Ref.isDig s[k]) := by
     rw [bl_take_succ s k hlt, List.all_append]; simp
    have HSN := hide hsn
    have HAL := hide hal
    have HMEM := hide hmem
    clear hsn hal hmem
    by_cases ha : (s[k].toNat : Int) < 48
    ·repeat' (first | go_values | go_skip | go_guarded | go_step | go_upon)
     go_ret
     exact ⟨ret_int (Ref.numIn_no _ _ HMEM.out (by simp [Ref.isDig]; omega)).symm, rfl⟩
    ·by_cases hb : 57 < (s[k].toNat : Int)
     ·repeat' (first | go_values | go_skip | go_guarded | go_step | go_upon)
      go_ret
      exact ⟨ret_int (Ref.numIn_no _ _ HMEM.out (by simp [Ref.isDig]; omega)).symm, rfl⟩
     ·have hbb := HB.out
      repeat' (first | go_values | go_skip | go_guarded | go_step | go_upon)
      refine ⟨⟨k + 1, by omega, by go_num, ?_, ?_⟩, ?_⟩
      ·rw [HSN.out]; congr 1; omega
      ·exact hide (by rw [HAL.out, hall.out]; simp [Ref.isDig]; omega)
      ·simp [intOf]; omega
   ·have hks : k = s.size := by omega
    have htk : (bl s).take k = bl s := List.take_of_length_le (by rw [bl_length]; omega)
    have hfin : (m : Int) = Ref.numIn (bl s) := by rw [Ref.numIn_yes _ (by rw [← htk]; exact hall.out), ← HM.out, htk]
    have HF := hide hfin
    clear hfin htk hks
    repeat' (first | go_values | go_skip | go_guarded | go_step | go_upon)
    go_ret
    exact ⟨ret_int HF.out, rfl⟩
set_option maxHeartbeats 400000 in
theorem number_any (s : ByteArray) (w : World) (hs : s.size ≤ maxLen) :
  Calls Tryz.prog 87 #[.string s] w fun e w' => e = .returned (.int .i64 (Ref.number (bl s))) ∧ w' = w := by
 unfold maxLen at hs
 by_cases h1 : s.size < 1
 ·have HF := hide (Ref.number_no (l := bl s) (Or.inl (by rw [bl_length]; exact h1)))
  go_enter Tryz.func87, Tryz.ntmps87
  repeat' (first | go_values | go_skip | go_guarded | go_step | go_upon)
  go_ret
  exact ⟨ret_int HF.out.symm, rfl⟩
 ·by_cases h2 : 10 < s.size
  ·have HF := hide (Ref.number_no (l := bl s) (Or.inr (Or.inl (by rw [bl_length]; exact h2))))
   go_enter Tryz.func87, Tryz.ntmps87
   repeat' (first | go_values | go_skip | go_guarded | go_step | go_upon)
   go_ret
   exact ⟨ret_int HF.out.symm, rfl⟩
  ·by_cases h3 : s[0].toNat = 48 ∧ 1 < s.size
   ·obtain ⟨h3, h4⟩ := h3
    have h5 : s[0] = 48 := UInt8.toNat_inj.1 h3
    have HF := hide (Ref.number_no (l := bl s) (Or.inr (Or.inr ⟨by rw [bl_head s (by omega), h5], by rw [bl_length]; exact h4⟩)))
    have h6 : (s[0].toNat : Int) = 48 := by omega
    clear h5 h3
    go_enter Tryz.func87, Tryz.ntmps87
    repeat' (first | go_values | go_skip | go_guarded | go_step | go_upon)
    go_ret
    exact ⟨ret_int HF.out.symm, rfl⟩
   ·refine (number_loop s w (by omega) (by omega) (fun h => by omega)).mono ?_
    rintro e w' ⟨rfl, rfl⟩
    refine ⟨ret_int (Ref.number_in ?_).symm, rfl⟩
    rw [bl_length, bl_head s (by omega)]
    rintro (h | h | ⟨h, h'⟩)
    ·omega
    ·omega
    ·refine h3 ⟨?_, h'⟩
     rw [Option.some.inj h]; rfl
set_option maxRecDepth 100000 in
set_option maxHeartbeats 2000000 in
theorem arity_any (s : ByteArray) (w : World) :
  Calls Tryz.prog 106 #[.string s] w fun e w' => e = .returned (.int .i64 (Ref.arity (bl s))) ∧ w' = w := by
 by_cases hm : bl s ∈ ([[97, 100, 100], [115, 117, 98], [109, 117, 108], [100, 105, 118], [97, 110, 100], [111, 114], [120, 111, 114], [115, 104, 108], [115, 104, 114], [101, 113], [108, 116], [110, 101, 103], [110, 111, 116]] : List (List UInt8))
 ·simp only [List.mem_cons, List.not_mem_nil, or_false] at hm
  rcases hm with h | h | h | h | h | h | h | h | h | h | h | h | h
  all_goals
   rw [of_bl h]
   go_enter Tryz.func106, Tryz.ntmps106
   go_wp2
   go_ret
   exact ⟨ret_int (by decide), rfl⟩
 ·have HF : Hid (Ref.arity (bl s) = 0) := hide (Ref.arity_no (fun h => hm (List.mem_append.2 (Or.inl h) : bl s ∈ Ref.twos ++ Ref.ones)) (fun h => hm (List.mem_append.2 (Or.inr h) : bl s ∈ Ref.twos ++ Ref.ones)))
  simp only [List.mem_cons, List.not_mem_nil, or_false, not_or] at hm
  obtain ⟨g0, g1, g2, g3, g4, g5, g6, g7, g8, g9, g10, g11, g12⟩ := hm
  replace g0 := toList_no g0
  replace g1 := toList_no g1
  replace g2 := toList_no g2
  replace g3 := toList_no g3
  replace g4 := toList_no g4
  replace g5 := toList_no g5
  replace g6 := toList_no g6
  replace g7 := toList_no g7
  replace g8 := toList_no g8
  replace g9 := toList_no g9
  replace g10 := toList_no g10
  replace g11 := toList_no g11
  replace g12 := toList_no g12
  go_enter Tryz.func106, Tryz.ntmps106
  go_wp2
  go_ret
  exact ⟨ret_int HF.out.symm, rfl⟩
set_option maxRecDepth 100000 in
set_option maxHeartbeats 2000000 in
theorem weight_any (s : ByteArray) (w : World) :
  Calls Tryz.prog 69 #[.string s] w fun e w' => e = .returned (.int .i64 (Ref.weight (bl s))) ∧ w' = w := by
 by_cases hm : bl s ∈ ([[97, 100, 100], [115, 117, 98], [97, 110, 100], [111, 114], [120, 111, 114], [101, 113], [108, 116], [109, 117, 108], [100, 105, 118], [115, 104, 108], [115, 104, 114], [110, 101, 103], [110, 111, 116], [99, 111, 110, 115, 116]] : List (List UInt8))
 ·simp only [List.mem_cons, List.not_mem_nil, or_false] at hm
  rcases hm with h | h | h | h | h | h | h | h | h | h | h | h | h | h
  all_goals
   rw [of_bl h]
   go_enter Tryz.func69, Tryz.ntmps69
   go_wp2
   go_ret
   exact ⟨ret_int (by decide), rfl⟩
 ·have HF : Hid (Ref.weight (bl s) = 0) := hide (Ref.weight_no hm)
  simp only [List.mem_cons, List.not_mem_nil, or_false, not_or] at hm
  obtain ⟨g0, g1, g2, g3, g4, g5, g6, g7, g8, g9, g10, g11, g12, g13⟩ := hm
  replace g0 := toList_no g0
  replace g1 := toList_no g1
  replace g2 := toList_no g2
  replace g3 := toList_no g3
  replace g4 := toList_no g4
  replace g5 := toList_no g5
  replace g6 := toList_no g6
  replace g7 := toList_no g7
  replace g8 := toList_no g8
  replace g9 := toList_no g9
  replace g10 := toList_no g10
  replace g11 := toList_no g11
  replace g12 := toList_no g12
  replace g13 := toList_no g13
  go_enter Tryz.func69, Tryz.ntmps69
  go_wp2
  go_ret
  exact ⟨ret_int HF.out.symm, rfl⟩
theorem arity_bs (l : List UInt8) (w : World) :
  Calls Tryz.prog 106 #[.string (bs l)] w fun e w' => e = .returned (.int .i64 (Ref.arity l)) ∧ w' = w := by
 have h := arity_any (bs l) w
 rw [bl_bs] at h
 exact h
theorem weight_bs (l : List UInt8) (w : World) :
  Calls Tryz.prog 69 #[.string (bs l)] w fun e w' => e = .returned (.int .i64 (Ref.weight l)) ∧ w' = w := by
 have h := weight_any (bs l) w
 rw [bl_bs] at h
 exact h
theorem part_succ (s : ByteArray) (c k : Nat) (hc : c ≤ k) (hk : k < s.size) : ((bl s).drop c).take (k + 1 - c) = ((bl s).drop c).take (k - c) ++ [s[k]] := by
 have e : k + 1 - c = (k - c) + 1 := by omega
 rw [e, List.take_add_one, List.getElem?_drop, show c + (k - c) = k by omega, bl_get s k hk]; rfl
theorem part_nil (l : List UInt8) (c : Nat) : (l.drop c).take (c - c) = [] := by simp
set_option maxRecDepth 100000 in
set_option maxHeartbeats 1000000 in
theorem lines_any (s : ByteArray) (w : World) (hs : s.size ≤ 16777216) :
  Calls Tryz.prog 31 #[.string s] w fun e w' => ∃ v, e = .returned (.tuple #[v, .bool (Ref.lines (bl s)).2]) ∧
   w'.ownsRow w.heap.size 9 1 v (Ref.lines (bl s)).1.length (strs (Ref.lines (bl s)).1) ∧ Below w.heap.size w w' := by
 obtain ⟨i0, hi, hz0, hz1, hz2⟩ := info_parts infoStr
 go_enter Tryz.func31, Tryz.ntmps31
 go_wp2
 go_loopw [4, 5, 6] (fun v b i wr => ∃ (k c : Nat) (ll : List (List UInt8)), c ≤ k ∧ k ≤ s.size ∧ ll.length ≤ k ∧ i = .int .i64 k ∧ b = .int .i64 c ∧ wr.ownsRow w.heap.size 9 1 v ll.length (strs ll) ∧ Below w.heap.size w wr ∧
   Hid (Ref.pre ll (Ref.linesGo ((bl s).drop k) (((bl s).drop c).take (k - c))) = Ref.lines (bl s)))
  (fun _ _ i _ => s.size - (intOf i).toNat)
 case atStart => exact ⟨0, 0, [], by omega, by omega, by simp, rfl, rfl, World.ownsRow_nil _ _ _ _, Below.refl _ _, by simp [Hid, Ref.pre, Ref.lines]⟩
 case round =>
  obtain ⟨k, c, ll, hck, hk, hll, rfl, rfl, hown, hbel, hsp⟩ := hrel
  have hsz := hbel.size
  by_cases hlt : k < s.size
  ·by_cases h10 : s[k] = 10
   ·have HS : Hid (Ref.pre (ll ++ [((bl s).drop c).take (k - c)]) (Ref.linesGo ((bl s).drop (k + 1)) (((bl s).drop (k + 1)).take (k + 1 - (k + 1)))) = Ref.lines (bl s)) := by
     rw [part_nil, ← hsp.out, bl_drop s k hlt]; exact (Ref.linesGo_end _ _ _ _ h10).symm
    have hc : (s[k].toNat : Int) = 10 := by rw [h10]; rfl
    clear h10 hsp
    go_wp2_with (first | (at_builtin; refine wpList_append_own _ rfl _ _ 56 rfl w.heap.size 9 i0 (.string ByteArray.empty) 1 16 Tryz.underlying56 hi hz0 hz1 hz2 rfl (by decide) _ _ _ rfl (hown.alloc _) ⟨wr.heap.size, 0, none⟩ 1 1 [.string (s.extract c k)] rfl rfl (cell_one_new _ _ _) (fun x hx => by simp at hx; subst hx; rfl) (by unfold maxLen; omega) (by omega) (by simp; omega) ?_; intro v' w3 hown' hgrow3 hnil3))
    refine ⟨⟨k + 1, k + 1, ll ++ [((bl s).drop c).take (k - c)], by omega, by omega, by simp; omega, by go_num, by go_num, ?_, ?_, HS⟩, ?_⟩
    ·rw [strs_snoc, List.length_append, ← bs_extract]; exact hown'
    ·exact (hbel.alloc hsz _).grown hgrow3 (by simp; omega) (fun j hj => (hown.lt j hj).1)
    ·simp [intOf]; omega
   ·have HS : Hid (Ref.pre ll (Ref.linesGo ((bl s).drop (k + 1)) (((bl s).drop c).take (k + 1 - c))) = Ref.lines (bl s)) := by
     rw [part_succ s c k hck hlt, ← hsp.out, bl_drop s k hlt, Ref.linesGo_on _ _ _ h10]
     exact rfl
    have hc : ¬ (s[k].toNat : Int) = 10 := fun h => h10 (UInt8.toNat_inj.1 (by rw [show ((10 : UInt8).toNat) = 10 from rfl]; omega))
    clear h10 hsp
    go_wp2
    exact ⟨⟨k + 1, c, ll, by omega, by omega, by omega, by go_num, rfl, hown, hbel, HS⟩, by simp [intOf]; omega⟩
  ·have hks : k = s.size := by omega
   have HS : Hid (ll = (Ref.lines (bl s)).1) := by
    have h := hsp.out
    rw [List.drop_of_length_le (by rw [bl_length]; omega)] at h
    rw [← h]; simp [Hid, Ref.pre, Ref.linesGo]
   have HB : Hid (decide (c = s.size) = (Ref.lines (bl s)).2) := by
    have h := hsp.out
    rw [List.drop_of_length_le (i := k) (by rw [bl_length]; omega)] at h
    rw [← h]
    show _ = ((((bl s).drop c).take (k - c)).isEmpty)
    rw [Bool.eq_iff_iff]
    simp only [decide_eq_true_eq, List.isEmpty_iff, ← List.length_eq_zero_iff, List.length_take, List.length_drop, bl_length]
    omega
   clear hsp
   go_wp2
   go_ret2
   refine ⟨u4, ret_vb rfl ?_, ?_, hbel⟩
   ·rw [← HB.out, Bool.eq_iff_iff]; simp; omega
   ·rw [← HS.out]; exact hown
theorem ret_pairS {a : Int} {b : Bool} {p : Int × Bool} (h : p = (a, b)) : Ending.returned (.tuple #[.int .i64 a, .bool b]) = .returned (.tuple #[.int .i64 p.1, .bool p.2]) := by rw [h]
set_option maxRecDepth 100000 in
set_option maxHeartbeats 1000000 in
theorem signed_any (s : ByteArray) (w : World) (hs : s.size ≤ 16777216) :
  Calls Tryz.prog 108 #[.string s] w fun e w' => e = .returned (.tuple #[.int .i64 (Ref.signed (bl s)).1, .bool (Ref.signed (bl s)).2]) ∧ w' = w := by
 by_cases h1 : (bl s).head? = some 45
 ·have hne : 0 < s.size := by
   rw [← bl_length]
   rcases hb : bl s with _ | ⟨a, t⟩
   ·rw [hb] at h1; cases h1
   ·simp
  have h45 : (s[0].toNat : Int) = 45 := by rw [bl_head s hne] at h1; rw [Option.some.inj h1]; rfl
  have hr := Ref.number_range (bl s).tail
  have hSp : Ref.signed (bl s) = Ref.signedOf true (Ref.number (bl s).tail) := by simp only [Ref.signed, if_pos h1]
  have HP := hide hSp
  clear hSp h1
  go_enter Tryz.func108, Tryz.ntmps108
  go_wp2_with fail
  refine (number_any _ w (by simp [maxLen]; omega)).mono ?_
  rintro e w' ⟨rfl, rfl⟩
  rw [bl_extract_end, List.drop_one]
  generalize Ref.number (bl s).tail = n at *
  obtain ⟨hr1, hr2⟩ := hr
  by_cases hn : n < 0
  ·have HF := hide (Ref.signedOf_bad (b := true) (n := n) (Or.inl hn))
   go_wp2
   go_ret2
   exact ⟨ret_pairS (HP.out.trans HF.out), rfl⟩
  ·by_cases hz : n = 0
   ·have HF := hide (Ref.signedOf_bad (b := true) (n := n) (Or.inr ⟨rfl, hz⟩))
    go_wp2
    go_ret2
    exact ⟨ret_pairS (HP.out.trans HF.out), rfl⟩
   ·have HF := hide (Ref.signedOf_neg (n := n) (by omega))
    have hnz : (n == 0) = false := beq_eq_false_iff_ne.2 hz
    by_cases hq : -2147483648 ≤ -n
    ·go_wp2
     go_ret2
     exact ⟨ret_pairS (by rw [HP.out, HF.out, Ref.inRange]; simp; omega), rfl⟩
    ·go_wp2
     go_ret2
     exact ⟨ret_pairS (by rw [HP.out, HF.out, Ref.inRange]; simp; omega), rfl⟩
 ·have hSp : Ref.signed (bl s) = Ref.signedOf false (Ref.number (bl s)) := by simp only [Ref.signed, if_neg h1]
  have HP := hide hSp
  have hr := Ref.number_range (bl s)
  have h45 : s.size = 0 ∨ (0 < s.size ∧ ∀ h : 0 < s.size, ¬ (s[0].toNat : Int) = 45) := by
   by_cases hz : s.size = 0
   ·exact Or.inl hz
   ·refine Or.inr ⟨by omega, fun hp h => h1 ?_⟩
    rw [bl_head s hp]
    congr 1
    exact UInt8.toNat_inj.1 (by rw [show ((45 : UInt8).toNat) = 45 from rfl]; omega)
  clear hSp h1
  rcases h45 with h45 | ⟨hp, h45⟩
  ·go_enter Tryz.func108, Tryz.ntmps108
   go_wp2_with fail
   refine (number_any _ w (by simp [maxLen]; omega)).mono ?_
   rintro e w' ⟨rfl, rfl⟩
   generalize Ref.number (bl s) = n at *
   obtain ⟨hr1, hr2⟩ := hr
   by_cases hn : n < 0
   ·have HF := hide (Ref.signedOf_bad (b := false) (n := n) (Or.inl hn))
    go_wp2
    go_ret2
    exact ⟨ret_pairS (HP.out.trans HF.out), rfl⟩
   ·have HF := hide (Ref.signedOf_pos (n := n) (by omega))
    go_wp2
    go_ret2
    exact ⟨ret_pairS (by rw [HP.out, HF.out, Ref.inRange]; simp; omega), rfl⟩
  ·replace h45 := h45 hp
   go_enter Tryz.func108, Tryz.ntmps108
   go_wp2_with fail
   refine (number_any _ w (by simp [maxLen]; omega)).mono ?_
   rintro e w' ⟨rfl, rfl⟩
   generalize Ref.number (bl s) = n at *
   obtain ⟨hr1, hr2⟩ := hr
   by_cases hn : n < 0
   ·have HF := hide (Ref.signedOf_bad (b := false) (n := n) (Or.inl hn))
    go_wp2
    go_ret2
    exact ⟨ret_pairS (HP.out.trans HF.out), rfl⟩
   ·have HF := hide (Ref.signedOf_pos (n := n) (by omega))
    go_wp2
    go_ret2
    exact ⟨ret_pairS (by rw [HP.out, HF.out, Ref.inRange]; simp; omega), rfl⟩
theorem signed_bs (l : List UInt8) (w : World) (hl : l.length ≤ 16777216) :
  Calls Tryz.prog 108 #[.string (bs l)] w fun e w' => e = .returned (.tuple #[.int .i64 (Ref.signed l).1, .bool (Ref.signed l).2]) ∧ w' = w := by
 have h := signed_any (bs l) w (by rw [bs_size]; omega)
 rw [bl_bs] at h
 exact h
end Go.Proofs.YtedkjanogjglkaaGreatDoor.D
