/-
  Parts of the proof: RefRule, RefRules.
-/
import Derived.Test.YtedkjanogjglkaaGreatDoorP28
namespace Go.Proofs.YtedkjanogjglkaaGreatDoor.D
open Go.RowKit
open Go.Proofs.YtedkjanogjglkaaGreatDoor.Code (RTree Nm)
theorem alike_iff (l : List Nm) : l.all (alikeP l) = true ↔ Code.Alike l := by
 rw [List.all_eq_true]
 constructor
 ·intro h x ⟨h1, h2⟩
  have := h _ h1
  simp [alikeP, shp, h1, h2] at this
 ·intro h p hp
  simp only [alikeP, shp, bne_iff_ne]
  intro hc
  by_cases h1 : (p.1, false) ∈ l <;> by_cases h2 : (p.1, true) ∈ l
  ·exact h p.1 ⟨h2, h1⟩
  ·simp [h1, h2] at hc
  ·simp [h1, h2] at hc
  ·simp [h1, h2] at hc
theorem bound_iff' (n l : List Nm) (ha : Code.Alike n) : l.all (boundP n) = true ↔ Code.Bound n l := by
 rw [List.all_eq_true]
 unfold Code.Bound
 constructor
 ·intro h p hp
  have h1 := h p hp
  rcases p with ⟨x, b⟩
  cases b with
  | true =>
   simp only [boundP, beq_iff_eq] at h1
   simp only [if_true]
   unfold shp at h1
   by_cases h2 : (x, true) ∈ n
   ·exact h2
   ·rw [if_neg h2] at h1
    split at h1 <;> omega
  | false =>
   simp only [boundP, bne_iff_ne] at h1
   simp only [Bool.false_eq_true, if_false]
   unfold shp at h1
   by_cases h2 : (x, false) ∈ n
   ·exact ⟨false, h2⟩
   ·by_cases h3 : (x, true) ∈ n
    ·exact ⟨true, h3⟩
    ·rw [if_neg h2, if_neg h3] at h1; omega
 ·intro h p hp
  have h1 := h p hp
  rcases p with ⟨x, b⟩
  cases b with
  | true =>
   simp only [if_true] at h1
   have h2 : (x, false) ∉ n := fun h2 => ha x ⟨h1, h2⟩
   simp [boundP, shp, h1, h2]
  | false =>
   simp only [Bool.false_eq_true, if_false] at h1
   obtain ⟨b, hb⟩ := h1
   simp only [boundP, bne_iff_ne, shp]
   cases b
   ·rw [if_pos hb]; omega
   ·rw [if_pos hb]; omega
def RepRD (w : World) (I : Nat → Prop) (a b : Value) (p : RTree × RTree) : Prop := RepD w I a p.1 ∧ RepD w I b p.2
def RuleD (s : List UInt8) (w : World) (e : Ending) (w' : World) : Prop :=
 ((∃ n r a b, Code.LineOf s (.ok (n, r)) ∧ e = .returned (.tuple #[.agg #[.pointer (some ⟨a, 0, none⟩), .pointer (some ⟨b, 0, none⟩)], .int .i64 0]) ∧ RepRD w' (Fresh w w') (.pointer (some ⟨a, 0, none⟩)) (.pointer (some ⟨b, 0, none⟩)) (n, r)) ∨
  (∃ er, Code.LineOf s (.error er) ∧ e = .returned (.tuple #[.agg #[.pointer none, .pointer none], .int .i64 er]) ∧ er ≠ 0)) ∧ Below w.heap.size w w'
theorem lineQ_none {E : Nat} (hE : 3 ≤ E) {s : List UInt8} (h : Code.lineQ E s = none) : Code.lineP s = none := by
 cases hl : Code.lineP s with
 | none => rfl
 | some p => rw [((Code.lineQ_same hE s p.1 p.2).1 hl).1] at h; cases h
theorem lineQ_deep {E : Nat} (hE : 3 ≤ E) {s : List UInt8} {n r : RTree} (h : Code.lineQ E s = some (n, r)) (hd : ¬ (n.depth ≤ 4 ∧ r.depth ≤ 4)) : Code.lineP s = none := by
 cases hl : Code.lineP s with
 | none => rfl
 | some p =>
  have h1 := (Code.lineQ_same hE s p.1 p.2).1 hl
  rw [h] at h1
  simp only [Option.some.injEq, Prod.mk.injEq] at h1
  rw [h1.1.1, h1.1.2] at hd
  exact absurd h1.2 hd
theorem depth3000 (result : Bool) : ∀ (e : Nat) (s : List UInt8) (t : RTree) (r : List UInt8), Code.treeQ result e s = some (t, r) → t.depth ≤ e := fun e s t r h => by
 rw [Code.treeQ_same] at h
 have h2 : Code.treeP result e s = some (t, r) := by
  cases hp : Code.treeP result e s with
  | none => rw [hp] at h; cases h
  | some p =>
   rw [hp] at h
   by_cases hd : Code.doomed p = true
   ·have e : Option.filter (fun p => !Code.doomed p) (some p) = none := by simp [hd]
    rw [e] at h; cases h
   ·have e : Option.filter (fun p => !Code.doomed p) (some p) = some p := by simp [hd]
    rw [e] at h; exact h
 exact ((Code.treeP_same result e e (Nat.le_refl _) s t r).1 h2).2
mutual
theorem heavyD_most {w : World} {I : Nat → Prop} : ∀ (t : RTree) (v : Value) (d : Nat), RepD w I v t → t.depth ≤ d → t.heavy ≤ most d
 | .name _, _, d, _, _ => by simp only [RTree.heavy]; cases d <;> simp only [most] <;> (try have := most_pos ‹Nat›) <;> omega
 | .hash _, _, d, _, _ => by simp only [RTree.heavy]; cases d <;> simp only [most] <;> (try have := most_pos ‹Nat›) <;> omega
 | .num _, _, d, _, _ => by simp only [RTree.heavy]; cases d <;> simp only [most] <;> (try have := most_pos ‹Nat›) <;> omega
 | .fold _ _, _, d, _, _ => by simp only [RTree.heavy]; cases d <;> simp only [most] <;> (try have := most_pos ‹Nat›) <;> omega
 | .op k kids, v, 0, _, hd => by simp [RTree.depth] at hd
 | .op k kids, v, d + 1, h, hd => by
  obtain ⟨b, kv, vs, _, _, _, hk, hvl, _, _, hts⟩ := h
  have h1 := heavyDs_most kids vs d hts (by simpa [RTree.depth] using hd)
  have h2 := (Code.opW_range k).2
  have h3 := (Code.opOf_range k hk).2
  have h4 := hts.length
  have h5 := most_pos d
  have h6 : (kids.length : Int) * most d ≤ 2 * most d := Int.mul_le_mul_of_nonneg_right (by omega) h5
  simp only [RTree.heavy, most]
  omega
theorem heavyDs_most {w : World} {I : Nat → Prop} : ∀ (ts : List RTree) (vs : List Value) (d : Nat), RepDs w I vs ts → Code.depthAll ts ≤ d → Code.heavyAll ts ≤ ts.length * most d
 | [], _, d, _, _ => by simp [Code.heavyAll]
 | t :: ts, [], _, h, _ => h.elim
 | t :: ts, v :: vs, d, h, hd => by
  simp only [Code.depthAll] at hd
  have h1 := heavyD_most t v d h.1 (by omega)
  have h2 := heavyDs_most ts vs d h.2 (by omega)
  simp only [Code.heavyAll, List.length_cons]
  have h3 : ((ts.length + 1 : Nat) : Int) * most d = ts.length * most d + most d := by
   rw [show ((ts.length + 1 : Nat) : Int) = (ts.length : Int) + 1 by omega, Int.add_mul, Int.one_mul]
  rw [h3]
  omega
end
set_option maxRecDepth 100000 in
set_option maxHeartbeats 8000000 in
theorem ruleD_any (s : List UInt8) (w : World) (hs : s.length ≤ 3000) : Calls Tryz.prog 32 #[.string (bs s)] w fun e w' => RuleD s w e w' := by
 have e1 := bs_size s
 obtain ⟨E, hE⟩ : ∃ E : Nat, E = 2999 := ⟨_, rfl⟩
 have hE3 : 3 ≤ E := by omega
 have HIA := hide (inner_any E)
 have HIB := hide (inner_any (E + 1))
 have HTA := hide (tree_any (E + 1))
 go_enter Tryz.func32, Tryz.ntmps32
 go_wp2_with fail
 generalize hw0 : (w.alloc _).alloc _ = w0
 have hx0 : w0.heap[w.heap.size]? = some (.cells #[.pointer none, .pointer none] 69) := by rw [← hw0]; exact stay_alloc (heap_alloc_new w _)
 have hsc0 : ScanR w0 (w.heap.size + 1) s 0 false := by
  have h := heap_alloc_new (w.alloc (.cells #[.pointer none, .pointer none] 69)) (.cells #[.string (bs s), .int .i64 0, .bool false] 127)
  rw [alloc_size] at h
  rw [← hw0]; exact h
 have hb0 : Below w.heap.size w w0 := by rw [← hw0]; exact below_al (below_al (Below.refl _ _) _) _
 have hz0 : w0.heap.size = w.heap.size + 2 := by rw [← hw0]; simp
 clear hw0
 generalize hsb : w.heap.size + 1 = sb at *
 refine (must_any sb s [40] 0 false w0 hsc0 (Nat.zero_le _) hs (by simp)).mono ?_
 rintro en w1 ⟨hg1, rfl, hcase1⟩
 obtain ⟨k1, bad1, hk1, hsc1, HC1⟩ : ∃ (k1 : Nat) (bad1 : Bool), k1 ≤ s.length ∧ ScanR w1 sb s k1 bad1 ∧ Hid ((bad1 = false ∧ 1 ≤ k1 ∧ Code.cut [40] s = some (s.drop k1)) ∨ (bad1 = true ∧ Code.cut [40] s = none)) := by
  rcases hcase1 with ⟨r, _, h2, h3, h4, h5⟩ | ⟨h1, h5⟩
  ·exact ⟨0 + 1, false, h4, h5, Or.inl ⟨rfl, by omega, by rw [List.drop_zero] at h2; rw [h2, ← h3]; rfl⟩⟩
  ·rcases h1 with h1 | h1
   ·cases h1
   ·exact ⟨0, true, Nat.zero_le _, h5, Or.inr ⟨rfl, by rw [List.drop_zero] at h1; exact h1⟩⟩
 have hcond1 : s.length - k1 ≤ E ∨ bad1 = true := by
  rcases HC1.out with ⟨_, h, _⟩ | ⟨h, _⟩
  ·exact Or.inl (by omega)
  ·exact Or.inr h
 have hx1 := kept_block hx0 hg1 (show w.heap.size ≠ sb by omega)
 have hgg1 : w0.grownBy w1 (some sb) := hg1
 clear hcase1 hsc0
 have hin : Calls Tryz.prog 62 #[.pointer (some ⟨sb, 0, none⟩), .int .u8 111, .bool false] w1 fun en w' => TPost (gate bad1 (Code.innerP (Code.treeQ false E) .op (s.drop k1))) s k1 sb w1 en w' := by
  rcases hcond1 with h | h
  ·exact HIA.out 111 .op (Or.inl ⟨rfl, rfl⟩) false sb s k1 bad1 w1 hsc1 hk1 h hs
  ·subst h
   refine (HIB.out 111 .op (Or.inl ⟨rfl, rfl⟩) false sb s k1 true w1 hsc1 hk1 (by omega) hs).mono ?_
   intro en w' hp
   simp only [gate] at hp ⊢
   exact hp
 have HIN := hide hin
 clear hin hcond1
 go_wp2_with fail
 refine (HIN.out).mono ?_
 rintro en w2 ⟨a, k2, bad2, rfl, hk12, hk2, hsc2, hg2, HD2⟩
 have hx2 := kept_block hx1 hg2 (show w.heap.size ≠ sb by omega)
 clear HIN
 go_wp2_with fail
 refine (must_any sb s [32, 61, 62, 32] k2 bad2 w2 hsc2 hk2 hs (by simp)).mono ?_
 rintro en w3 ⟨hg3, rfl, hcase3⟩
 obtain ⟨k3, bad3, hk23, hk3, hsc3, HC3⟩ : ∃ (k3 : Nat) (bad3 : Bool), k2 ≤ k3 ∧ k3 ≤ s.length ∧ ScanR w3 sb s k3 bad3 ∧ Hid ((bad3 = false ∧ bad2 = false ∧ Code.cut [32, 61, 62, 32] (s.drop k2) = some (s.drop k3)) ∨ (bad3 = true ∧ (bad2 = true ∨ Code.cut [32, 61, 62, 32] (s.drop k2) = none))) := by
  rcases hcase3 with ⟨r, h1, h2, h3, h4, h5⟩ | ⟨h1, h5⟩
  ·exact ⟨k2 + 4, false, by omega, h4, h5, Or.inl ⟨rfl, h1, by rw [h2, ← h3]; rfl⟩⟩
  ·exact ⟨k2, true, Nat.le_refl _, hk2, h5, Or.inr ⟨rfl, h1⟩⟩
 have hx3 := kept_block hx2 hg3 (show w.heap.size ≠ sb by omega)
 clear hcase3
 have HTR := hide (HTA.out true sb s k3 bad3 w3 hsc3 hk3 (by omega) hs)
 go_wp2_with fail
 refine (HTR.out).mono ?_
 rintro en w5 ⟨b, k5, bad5, rfl, hk35, hk5, hsc5, hg5, HD5⟩
 have hx5 := kept_block hx3 hg5 (show w.heap.size ≠ sb by omega)
 have hb5 : Below w.heap.size w w5 := by
  have hg := grown_trans hg1 (grown_trans hg2 (grown_trans hg3 hg5))
  exact ⟨hg.os.trans hb0.os, hg.tape.trans hb0.tape, hg.output.trans hb0.output, Nat.le_trans hb0.size hg.size, fun q hq => (hg.block q (by omega) (by simp; omega)).trans (hb0.block q hq)⟩
 have hz1 := hg1.size
 have hz2 := hg2.size
 have hz3 := hg3.size
 have hz5 := hg5.size
 have HALL : Hid ((bad5 = false ∧ ∃ n r, RepD w5 (Fresh w w5) (.pointer (some ⟨a, 0, none⟩)) n ∧ RepD w5 (Fresh w w5) (.pointer (some ⟨b, 0, none⟩)) r ∧ n.depth ≤ 3000 ∧ r.depth ≤ 3000 ∧ (∃ q l, n = .op q l) ∧ Code.lineQ E s = if s.drop k5 = [] then some (n, r) else none) ∨ (bad5 = true ∧ Code.lineQ E s = none)) := by
  refine hide ?_
  have hlq : Code.lineQ E s = ((Code.cut [40] s).bind fun r => Code.innerP (Code.treeQ false E) .op r).bind fun p => (Code.cut [32, 61, 62, 32] p.2).bind fun r => (Code.treeQ true (E + 1) r).bind fun q => if q.2 = [] then some (p.1, q.1) else none := rfl
  rcases HC1.out with ⟨rfl, _, hc1⟩ | ⟨rfl, hc1⟩
  ·rcases HD2.out with ⟨rfl, n, hn, hrn⟩ | ⟨rfl, hn⟩
   ·have hn' : Code.innerP (Code.treeQ false E) .op (s.drop k1) = some (n, s.drop k2) := hn
    rcases HC3.out with ⟨rfl, _, hc3⟩ | ⟨rfl, h3⟩
    ·rcases HD5.out with ⟨rfl, r, hr, hrr⟩ | ⟨rfl, hr⟩
     ·have hr' : Code.treeQ true (E + 1) (s.drop k3) = some (r, s.drop k5) := hr
      refine Or.inl ⟨rfl, n, r, ?_, ?_, ?_, Nat.le_trans (depth3000 true (E + 1) _ _ _ hr') (by omega), ?_, ?_⟩
      ·refine RepD.kept (I := Fresh w1 w2) (fun q C T z hc hT hI => ?_) (fun q hq => ⟨by have := hq.1; omega, by have := hq.2; omega⟩) n _ hrn
       exact keepsD_grown hsc3 hg5 q C T z (keepsD_grown hsc2 hg3 q C T z hc hT hI) hT hI
      ·exact RepD.kept (keepsD_refl _ _) (fun q hq => ⟨by have := hq.1; omega, hq.2⟩) r _ hrr
      ·rw [Code.inner_doomed (Code.treeQ_same false E)] at hn'
       have h := (Code.innerP_same (Code.treeP_same false E E (Nat.le_refl _)) (fun k l => by simp [RTree.depth]) (s.drop k1) n (s.drop k2)).1 hn'
       exact Nat.le_trans h.2 (by omega)
      ·simp only [Code.innerP, Option.bind_eq_some_iff, Option.map_eq_some_iff, Prod.mk.injEq] at hn'
       obtain ⟨q, _, p, _, v, _, h, _⟩ := hn'
       exact ⟨q, p.1, h.symm⟩
      ·rw [hlq, hc1]
       simp only [Option.bind_some, hn', hc3, hr']
     ·have hr' : Code.treeQ true (E + 1) (s.drop k3) = none := hr
      exact Or.inr ⟨rfl, by rw [hlq, hc1]; simp only [Option.bind_some, hn', hc3, hr', Option.bind_none]⟩
    ·have hc3 : Code.cut [32, 61, 62, 32] (s.drop k2) = none := h3.resolve_left (by simp)
     rcases HD5.out with ⟨_, r, hr, _⟩ | ⟨rfl, _⟩
     ·cases hr
     ·exact Or.inr ⟨rfl, by rw [hlq, hc1]; simp only [Option.bind_some, hn', hc3, Option.bind_none]⟩
   ·have hn' : Code.innerP (Code.treeQ false E) .op (s.drop k1) = none := hn
    rcases HC3.out with ⟨_, h, _⟩ | ⟨rfl, _⟩
    ·cases h
    ·rcases HD5.out with ⟨_, r, hr, _⟩ | ⟨rfl, _⟩
     ·cases hr
     ·exact Or.inr ⟨rfl, by rw [hlq, hc1]; simp only [Option.bind_some, hn', Option.bind_none]⟩
  ·rcases HD2.out with ⟨_, n, hn, _⟩ | ⟨rfl, _⟩
   ·cases hn
   ·rcases HC3.out with ⟨_, h, _⟩ | ⟨rfl, _⟩
    ·cases h
    ·rcases HD5.out with ⟨_, r, hr, _⟩ | ⟨rfl, _⟩
     ·cases hr
     ·exact Or.inr ⟨rfl, by rw [hlq, hc1]; rfl⟩
 have s1 := blk_cell hsc5 1 _ rfl
 have s2 := blk_cell hsc5 2 _ rfl
 clear HC1 HD2 HC3 HD5 HTR hsc1 hsc2 hsc3 hx0 hx1 hx2 hx3 hg1 hg2 hg3 hg5 hb0 hgg1 hz1 hz2 hz3 hz5 hk1 hk2 hk3 hk12 hk23 hk35
 cases bad5 with
 | true =>
  have HE : Hid (Code.LineOf s (.error 6)) := by
   rcases HALL.out with ⟨h, _⟩ | ⟨_, h⟩
   ·cases h
   ·exact .no (lineQ_none hE3 h)
  clear HALL hsc5
  have n0 := blk_cell hx5 0 _ rfl
  have n1 := blk_cell hx5 1 _ rfl
  have y0 := blk_froz hx5 0
  have y1 := blk_froz hx5 1
  go_wp2
  refine bodyPost_ret (v := .tuple #[.agg #[.pointer none, .pointer none], .int .i64 6]) (by simp [results, Tryz.results32, go_sem, n0, n1]) rfl ?_
  exact ⟨Or.inr ⟨6, HE.out, rfl, by decide⟩, below_set (below_set hb5 (Nat.le_refl _) _ _) (Nat.le_refl _) _ _⟩
 | false =>
  obtain ⟨n, r, HRN, HRR, hdn, hdr, hopn, HLQ⟩ : ∃ n r, Hid (RepD w5 (Fresh w w5) (.pointer (some ⟨a, 0, none⟩)) n) ∧ Hid (RepD w5 (Fresh w w5) (.pointer (some ⟨b, 0, none⟩)) r) ∧ n.depth ≤ 3000 ∧ r.depth ≤ 3000 ∧ Hid (∃ q l, n = .op q l) ∧ Hid (Code.lineQ E s = if s.drop k5 = [] then some (n, r) else none) := by
   rcases HALL.out with ⟨_, n, r, h1, h2, h3, h4, h5, h6⟩ | ⟨h, _⟩
   ·exact ⟨n, r, h1, h2, h3, h4, h5, h6⟩
   ·cases h
  clear HALL hsc5
  by_cases hkl : k5 = s.length
  case neg =>
   have HE : Hid (Code.LineOf s (.error 6)) := by
    refine .no (lineQ_none hE3 ?_)
    rw [HLQ.out, if_neg]
    intro h
    have := congrArg List.length h
    simp at this
    omega
   have hne : ((k5 : Int) == (s.length : Int)) = false := beq_eq_false_iff_ne.2 (by omega)
   have hne2 : (k5 == s.length) = false := beq_eq_false_iff_ne.2 hkl
   have hne3 : ¬ (k5 : Int) = (s.length : Int) := by omega
   have n0 := blk_cell hx5 0 _ rfl
   have n1 := blk_cell hx5 1 _ rfl
   have y0 := blk_froz hx5 0
   have y1 := blk_froz hx5 1
   go_wp2
   refine bodyPost_ret (v := .tuple #[.agg #[.pointer none, .pointer none], .int .i64 6]) (by simp [results, Tryz.results32, go_sem, n0, n1]) rfl ?_
   exact ⟨Or.inr ⟨6, HE.out, rfl, by decide⟩, below_set (below_set hb5 (Nat.le_refl _) _ _) (Nat.le_refl _) _ _⟩
  have HLS : Hid (Code.lineQ E s = some (n, r)) := by
   rw [HLQ.out, if_pos]
   ·exact rfl
   ·rw [hkl]; simp
  clear HLQ
  subst hkl
  have HDN := hide (depth_any n (Fresh w w5) _ w5 HRN.out hdn)
  go_wp2_with fail
  refine (HDN.out).mono ?_
  rintro en w6 ⟨rfl, hb6⟩
  have hx6 := (hb6.block _ (lt_of_block hx5)).trans hx5
  have hbw6 := hb5.trans (hb6.mono hb5.size)
  have HRN6 : Hid (RepD w6 (Fresh w w6) (.pointer (some ⟨a, 0, none⟩)) n) := RepD.kept (keepsD_below hb6) (fun q hq => ⟨hq.1, Nat.lt_of_lt_of_le hq.2 hb6.size⟩) n _ HRN.out
  have HRR6 : Hid (RepD w6 (Fresh w w6) (.pointer (some ⟨b, 0, none⟩)) r) := RepD.kept (keepsD_below hb6) (fun q hq => ⟨hq.1, Nat.lt_of_lt_of_le hq.2 hb6.size⟩) r _ HRR.out
  by_cases hd4 : (4 : Int) < (n.depth : Int)
  ·have HE : Hid (Code.LineOf s (.error 6)) := .no (lineQ_deep hE3 HLS.out (fun h => by omega))
   have n0 := blk_cell hx6 0 _ rfl
   have n1 := blk_cell hx6 1 _ rfl
   have y0 := blk_froz hx6 0
   have y1 := blk_froz hx6 1
   go_wp2
   refine bodyPost_ret (v := .tuple #[.agg #[.pointer none, .pointer none], .int .i64 6]) (by simp [results, Tryz.results32, go_sem, n0, n1]) rfl ?_
   exact ⟨Or.inr ⟨6, HE.out, rfl, by decide⟩, below_set (below_set hbw6 (Nat.le_refl _) _ _) (Nat.le_refl _) _ _⟩
  have HDR := hide (depth_any r (Fresh w w6) _ w6 HRR6.out hdr)
  have hd4' : decide ((4 : Int) < (n.depth : Int)) = false := decide_eq_false hd4
  have hd4'' : n.depth ≤ 4 := by omega
  have hd4z : ¬ 4 < n.depth := by omega
  go_wp2_with fail
  refine (HDR.out).mono ?_
  rintro en w7 ⟨rfl, hb7⟩
  have hx7 := (hb7.block _ (lt_of_block hx6)).trans hx6
  have hbw7 := hbw6.trans (hb7.mono hbw6.size)
  have HRN7 : Hid (RepD w7 (Fresh w w7) (.pointer (some ⟨a, 0, none⟩)) n) := RepD.kept (keepsD_below hb7) (fun q hq => ⟨hq.1, Nat.lt_of_lt_of_le hq.2 hb7.size⟩) n _ HRN6.out
  have HRR7 : Hid (RepD w7 (Fresh w w7) (.pointer (some ⟨b, 0, none⟩)) r) := RepD.kept (keepsD_below hb7) (fun q hq => ⟨hq.1, Nat.lt_of_lt_of_le hq.2 hb7.size⟩) r _ HRR6.out
  by_cases hr4 : (4 : Int) < (r.depth : Int)
  ·have HE : Hid (Code.LineOf s (.error 6)) := .no (lineQ_deep hE3 HLS.out (fun h => by omega))
   have n0 := blk_cell hx7 0 _ rfl
   have n1 := blk_cell hx7 1 _ rfl
   have y0 := blk_froz hx7 0
   have y1 := blk_froz hx7 1
   go_wp2
   refine bodyPost_ret (v := .tuple #[.agg #[.pointer none, .pointer none], .int .i64 6]) (by simp [results, Tryz.results32, go_sem, n0, n1]) rfl ?_
   exact ⟨Or.inr ⟨6, HE.out, rfl, by decide⟩, below_set (below_set hbw7 (Nat.le_refl _) _ _) (Nat.le_refl _) _ _⟩
  have HLP : Hid (Code.lineP s = some (n, r)) := (Code.lineQ_same hE3 s n r).2 ⟨HLS.out, by omega, by omega⟩
  have HFO := hide (folds_any r (Fresh w w7) _ false w7 HRR7.out)
  have hrd4 : r.depth ≤ 4 := by omega
  have hr4' : decide ((4 : Int) < (r.depth : Int)) = false := decide_eq_false hr4
  have hr4z : ¬ 4 < r.depth := by omega
  clear HRN HRR HRN6 HRR6 hx5 hx6 hb5 hb6 hb7 HDN HDR HLS hd4 hr4 hdn hdr
  go_wp2_with fail
  refine (HFO.out).mono ?_
  rintro en w8 ⟨rfl, hb8⟩
  have hx8 := (hb8.block _ (lt_of_block hx7)).trans hx7
  have hbw8 := hbw7.trans (hb8.mono hbw7.size)
  have HRN8 : Hid (RepD w8 (Fresh w w8) (.pointer (some ⟨a, 0, none⟩)) n) := RepD.kept (keepsD_below hb8) (fun q hq => ⟨hq.1, Nat.lt_of_lt_of_le hq.2 hb8.size⟩) n _ HRN7.out
  have HRR8 : Hid (RepD w8 (Fresh w w8) (.pointer (some ⟨b, 0, none⟩)) r) := RepD.kept (keepsD_below hb8) (fun q hq => ⟨hq.1, Nat.lt_of_lt_of_le hq.2 hb8.size⟩) r _ HRR7.out
  have HAL := hide (alike_any n (Fresh w w8) (Fresh w w8) _ _ n w8 HRN8.out HRN8.out)
  clear HFO HRN7 HRR7 hx7 hbw7 hb8
  go_wp2_with fail
  refine (HAL.out).mono ?_
  rintro en w9 ⟨rfl, hb9⟩
  have hx9 := (hb9.block _ (lt_of_block hx8)).trans hx8
  have hbw9 := hbw8.trans (hb9.mono hbw8.size)
  have HRN9 : Hid (RepD w9 (Fresh w w9) (.pointer (some ⟨a, 0, none⟩)) n) := RepD.kept (keepsD_below hb9) (fun q hq => ⟨hq.1, Nat.lt_of_lt_of_le hq.2 hb9.size⟩) n _ HRN8.out
  have HRR9 : Hid (RepD w9 (Fresh w w9) (.pointer (some ⟨b, 0, none⟩)) r) := RepD.kept (keepsD_below hb9) (fun q hq => ⟨hq.1, Nat.lt_of_lt_of_le hq.2 hb9.size⟩) r _ HRR8.out
  clear HAL HRN8 HRR8 hx8 hbw8 hb9
  by_cases hfa : r.folds false = true ∧ n.names.all (alikeP n.names) = true
  case neg =>
   have HE : Hid (Code.LineOf s (.error 6)) := by
    refine .folds HLP.out ?_
    by_cases h1 : r.folds false = true
    ·exact Or.inr (fun h => hfa ⟨h1, (alike_iff _).2 h⟩)
    ·exact Or.inl (by simpa using h1)
   have hq : (r.folds false = false) ∨ (r.folds false = true ∧ n.names.all (alikeP n.names) = false) := by
    by_cases h1 : r.folds false = true
    ·exact Or.inr ⟨h1, Bool.eq_false_iff.2 (fun h => hfa ⟨h1, h⟩)⟩
    ·exact Or.inl (by simpa using h1)
   clear hfa
   rcases hq with hq | ⟨hq, hq2⟩
   ·rw [hq]
    have n0 := blk_cell hx9 0 _ rfl
    have n1 := blk_cell hx9 1 _ rfl
    have y0 := blk_froz hx9 0
    have y1 := blk_froz hx9 1
    go_wp2
    refine bodyPost_ret (v := .tuple #[.agg #[.pointer none, .pointer none], .int .i64 6]) (by simp [results, Tryz.results32, go_sem, n0, n1]) rfl ?_
    exact ⟨Or.inr ⟨6, HE.out, rfl, by decide⟩, below_set (below_set hbw9 (Nat.le_refl _) _ _) (Nat.le_refl _) _ _⟩
   ·rw [hq, hq2]
    have n0 := blk_cell hx9 0 _ rfl
    have n1 := blk_cell hx9 1 _ rfl
    have y0 := blk_froz hx9 0
    have y1 := blk_froz hx9 1
    go_wp2
    refine bodyPost_ret (v := .tuple #[.agg #[.pointer none, .pointer none], .int .i64 6]) (by simp [results, Tryz.results32, go_sem, n0, n1]) rfl ?_
    exact ⟨Or.inr ⟨6, HE.out, rfl, by decide⟩, below_set (below_set hbw9 (Nat.le_refl _) _ _) (Nat.le_refl _) _ _⟩
  obtain ⟨hfo, hal⟩ := hfa
  rw [hfo, hal]
  have HFO := hide hfo
  have HALK : Hid (Code.Alike n.names) := (alike_iff _).1 hal
  have HBO := hide (bound_any r (Fresh w w9) (Fresh w w9) _ _ n w9 HRR9.out HRN9.out)
  clear hfo hal
  go_wp2_with fail
  refine (HBO.out).mono ?_
  rintro en w10 ⟨rfl, hb10⟩
  have hx10 := (hb10.block _ (lt_of_block hx9)).trans hx9
  have hbw10 := hbw9.trans (hb10.mono hbw9.size)
  have HRN10 : Hid (RepD w10 (Fresh w w10) (.pointer (some ⟨a, 0, none⟩)) n) := RepD.kept (keepsD_below hb10) (fun q hq => ⟨hq.1, Nat.lt_of_lt_of_le hq.2 hb10.size⟩) n _ HRN9.out
  have HRR10 : Hid (RepD w10 (Fresh w w10) (.pointer (some ⟨b, 0, none⟩)) r) := RepD.kept (keepsD_below hb10) (fun q hq => ⟨hq.1, Nat.lt_of_lt_of_le hq.2 hb10.size⟩) r _ HRR9.out
  clear HBO HRN9 HRR9 hx9 hbw9 hb10
  have HBI := hide (bound_iff' n.names r.names HALK.out)
  cases hbo : r.names.all (boundP n.names) with
  | false =>
   have HE : Hid (Code.LineOf s (.error 7)) := .bound HLP.out HFO.out HALK.out (fun h => by rw [HBI.out.2 h] at hbo; cases hbo)
   clear hbo HBI
   have n0 := blk_cell hx10 0 _ rfl
   have n1 := blk_cell hx10 1 _ rfl
   have y0 := blk_froz hx10 0
   have y1 := blk_froz hx10 1
   go_wp2
   refine bodyPost_ret (v := .tuple #[.agg #[.pointer none, .pointer none], .int .i64 7]) (by simp [results, Tryz.results32, go_sem, n0, n1]) rfl ?_
   exact ⟨Or.inr ⟨7, HE.out, rfl, by decide⟩, below_set (below_set hbw10 (Nat.le_refl _) _ _) (Nat.le_refl _) _ _⟩
  | true =>
   have HBD : Hid (Code.Bound n.names r.names) := HBI.out.1 hbo
   clear hbo HBI
   obtain ⟨q, l, rfl⟩ := hopn.out
   have hhv : r.heavy ≤ 100000 := Int.le_trans (heavyD_most r _ 4 HRR10.out hrd4) (by decide)
   obtain ⟨a', kv, vs, hae, hai, hax, hq13, _⟩ := HRN10.out
   simp only [Value.pointer.injEq, Option.some.injEq, Addr.mk.injEq] at hae
   obtain ⟨rfl, _, _⟩ := hae
   have HAI := hide hai
   have hdv := div_name q hq13
   have HWT := hide (weight_bs (Code.nameOf q))
   rw [weight_name q hq13] at HWT
   have hW := Code.opW_range q
   have hp := Code.heavy_pos r
   clear hai
   generalize bs (Code.nameOf q) = NM at *
   go_wp2_with fail
   have hSS : w10.drew.heap[a]? = some (.cells #[.int .u8 111, .string NM, .int .i64 0, kv] 135) := hax
   refine wp_region_held_drew (S := fun w' => w'.heap[a]? = some (.cells #[.int .u8 111, .string NM, .int .i64 0, kv] 135)) (by kernel_rfl) hax (fun hHeld => ?_)
   have hbd : Below w10.heap.size w10 w10.drew := Below.drew (Below.refl _ _)
   generalize w10.drew = wd at hSS hbd ⊢
   clear hHeld hax
   by_cases hq3 : q = 3
   ·rw [decide_eq_true hq3] at hdv
    have HE : Hid (Code.LineOf s (.error 8)) := .heavy HLP.out HFO.out HALK.out HBD.out (Or.inl hq3)
    have hxd := (hbd.block _ (lt_of_block hx10)).trans hx10
    have hbwd := hbw10.trans (hbd.mono hbw10.size)
    clear hq3
    refine wpAnyH_take (i := 0) (v := .pointer (some ⟨a, 0, none⟩)) rfl (by kernel_rfl) (by kernel_rfl) (by kernel_rfl) (fun _ _ _ h => h) (Or.inl ⟨by rfl, fun w' h => by  go_simp⟩) hSS ?_
    try simp only [Act.put, z1, z2, z4, z5, z6]
    refine wpAnyH_take (i := 1) (v := .pointer (some ⟨a, 0, none⟩)) rfl (by kernel_rfl) (by kernel_rfl) (by kernel_rfl) (fun _ _ _ h => h) (Or.inl ⟨by rfl, fun w' h => by  go_simp⟩) hSS ?_
    try simp only [Act.put, z1, z2, z3, z4, z5, z6]
    refine wpAnyH_take (i := 2) (v := .pointer (some ⟨a, 1, none⟩)) rfl (by kernel_rfl) (by kernel_rfl) (by kernel_rfl) (fun _ _ _ h => h) (Or.inl ⟨by rfl, fun w' h => by  go_simp⟩) hSS ?_
    try simp only [Act.put, z1, z2, z3, z4, z5, z6]
    refine wpAnyH_take (i := 3) (v := .string NM) rfl (by kernel_rfl) (by kernel_rfl) (by kernel_rfl) (fun _ _ _ h => h) (Or.inl ⟨by rfl, fun w' h => by have r0 := blk_cell h 1 _ rfl; go_simp⟩) hSS ?_
    try simp only [Act.put, z1, z2, z3, z4, z5, z6]
    refine wpAnyH_take (i := 4) (v := .bool true) rfl (by kernel_rfl) (by kernel_rfl) (by kernel_rfl) (fun _ _ _ h => h) (Or.inl ⟨by rfl, fun w' h => by  go_simp⟩) hSS ?_
    try simp only [Act.put, z1, z2, z3, z4, z5, z6]
    refine wpAnyH_take (i := 5) (v := .bool true) rfl (by kernel_rfl) (by kernel_rfl) (by kernel_rfl) (fun _ _ _ h => h) (Or.inl ⟨by rfl, fun w' h => by  go_simp⟩) hSS ?_
    try simp only [Act.put, z1, z2, z3, z4, z5, z6]
    refine wpAnyH_take (i := 6) (v := undef) rfl (by kernel_rfl) (by kernel_rfl) (by kernel_rfl) (fun _ _ _ h => h) (Or.inr ⟨by rfl, rfl⟩) hSS ?_
    try simp only [Act.put, z1, z2, z3, z4, z5, z6]
    refine wpAnyH_take (i := 7) (v := undef) rfl (by kernel_rfl) (by kernel_rfl) (by kernel_rfl) (fun _ _ _ h => h) (Or.inr ⟨by rfl, rfl⟩) hSS ?_
    try simp only [Act.put, z1, z2, z3, z4, z5, z6]
    refine wpAnyH_take (i := 8) (v := undef) rfl (by kernel_rfl) (by kernel_rfl) (by kernel_rfl) (fun _ _ _ h => h) (Or.inr ⟨by rfl, rfl⟩) hSS ?_
    try simp only [Act.put, z1, z2, z3, z4, z5, z6]
    refine wpAnyH_take (i := 9) (v := undef) rfl (by kernel_rfl) (by kernel_rfl) (by kernel_rfl) (fun _ _ _ h => h) (Or.inr ⟨by rfl, rfl⟩) hSS ?_
    try simp only [Act.put, z1, z2, z3, z4, z5, z6]
    refine wpAnyH_take (i := 10) (v := undef) rfl (by kernel_rfl) (by kernel_rfl) (by kernel_rfl) (fun _ _ _ h => h) (Or.inr ⟨by rfl, rfl⟩) hSS ?_
    try simp only [Act.put, z1, z2, z3, z4, z5, z6]
    refine wpAnyH_take (i := 11) (v := undef) rfl (by kernel_rfl) (by kernel_rfl) (by kernel_rfl) (fun _ _ _ h => h) (Or.inr ⟨by rfl, rfl⟩) hSS ?_
    try simp only [Act.put, z1, z2, z3, z4, z5, z6]
    refine wpAnyH_take (i := 12) (v := undef) rfl (by kernel_rfl) (by kernel_rfl) (by kernel_rfl) (fun _ _ _ h => h) (Or.inr ⟨by rfl, rfl⟩) hSS ?_
    try simp only [Act.put, z1, z2, z3, z4, z5, z6]
    refine wpAnyH_take (i := 13) (v := undef) rfl (by kernel_rfl) (by kernel_rfl) (by kernel_rfl) (fun _ _ _ h => h) (Or.inr ⟨by rfl, rfl⟩) hSS ?_
    try simp only [Act.put, z1, z2, z3, z4, z5, z6]
    refine wpAnyH_take (i := 14) (v := .bool true) rfl (by kernel_rfl) (by kernel_rfl) (by kernel_rfl) (fun _ _ _ h => h) (Or.inl ⟨by rfl, fun w' h => by  go_simp⟩) hSS ?_
    try simp only [Act.put, z1, z2, z3, z4, z5, z6]
    refine wpAnyH_done (by kernel_rfl) ?_ _
    have n0 := blk_cell hxd 0 _ rfl
    have n1 := blk_cell hxd 1 _ rfl
    have y0 := blk_froz hxd 0
    have y1 := blk_froz hxd 1
    go_wp2
    refine bodyPost_ret (v := .tuple #[.agg #[.pointer none, .pointer none], .int .i64 8]) (by simp [results, Tryz.results32, go_sem, n0, n1]) rfl ?_
    exact ⟨Or.inr ⟨8, HE.out, rfl, by decide⟩, below_set (below_set hbwd (Nat.le_refl _) _ _) (Nat.le_refl _) _ _⟩
   ·rw [decide_eq_false hq3] at hdv
    have HHV := hide (heavy_any r (Fresh w w10) (.pointer (some ⟨b, 0, none⟩)) wd (HRR10.out.below hbd) hhv)
    refine wpAnyH_take (i := 0) (v := .pointer (some ⟨a, 0, none⟩)) rfl (by kernel_rfl) (by kernel_rfl) (by kernel_rfl) (fun _ _ _ h => h) (Or.inl ⟨by rfl, fun w' h => by  go_simp⟩) hSS ?_
    try simp only [Act.put, z1, z2, z4, z5, z6]
    refine wpAnyH_take (i := 1) (v := .pointer (some ⟨a, 0, none⟩)) rfl (by kernel_rfl) (by kernel_rfl) (by kernel_rfl) (fun _ _ _ h => h) (Or.inl ⟨by rfl, fun w' h => by  go_simp⟩) hSS ?_
    try simp only [Act.put, z1, z2, z3, z4, z5, z6]
    refine wpAnyH_take (i := 2) (v := .pointer (some ⟨a, 1, none⟩)) rfl (by kernel_rfl) (by kernel_rfl) (by kernel_rfl) (fun _ _ _ h => h) (Or.inl ⟨by rfl, fun w' h => by  go_simp⟩) hSS ?_
    try simp only [Act.put, z1, z2, z3, z4, z5, z6]
    refine wpAnyH_take (i := 3) (v := .string NM) rfl (by kernel_rfl) (by kernel_rfl) (by kernel_rfl) (fun _ _ _ h => h) (Or.inl ⟨by rfl, fun w' h => by have r0 := blk_cell h 1 _ rfl; go_simp⟩) hSS ?_
    try simp only [Act.put, z1, z2, z3, z4, z5, z6]
    refine wpAnyH_take (i := 4) (v := .bool false) rfl (by kernel_rfl) (by kernel_rfl) (by kernel_rfl) (fun _ _ _ h => h) (Or.inl ⟨by rfl, fun w' h => by  go_simp⟩) hSS ?_
    try simp only [Act.put, z1, z2, z3, z4, z5, z6]
    refine wpAnyH_take (i := 5) (v := .bool false) rfl (by kernel_rfl) (by kernel_rfl) (by kernel_rfl) (fun _ _ _ h => h) (Or.inl ⟨by rfl, fun w' h => by  go_simp⟩) hSS ?_
    try simp only [Act.put, z1, z2, z3, z4, z5, z6]
    refine wpAnyH_take (i := 6) (v := .pointer (some ⟨b, 0, none⟩)) rfl (by kernel_rfl) (by kernel_rfl) (by kernel_rfl) (fun _ _ _ h => h) (Or.inl ⟨by rfl, fun w' h => by  go_simp⟩) hSS ?_
    try simp only [Act.put, z1, z2, z3, z4, z5, z6]
    refine wpAnyH_take (i := 8) (v := .pointer (some ⟨a, 0, none⟩)) rfl (by kernel_rfl) (by kernel_rfl) (by kernel_rfl) (fun _ _ _ h => h) (Or.inl ⟨by rfl, fun w' h => by  go_simp⟩) hSS ?_
    try simp only [Act.put, z1, z2, z3, z4, z5, z6]
    refine wpAnyH_take (i := 9) (v := .pointer (some ⟨a, 0, none⟩)) rfl (by kernel_rfl) (by kernel_rfl) (by kernel_rfl) (fun _ _ _ h => h) (Or.inl ⟨by rfl, fun w' h => by  go_simp⟩) hSS ?_
    try simp only [Act.put, z1, z2, z3, z4, z5, z6]
    refine wpAnyH_take (i := 10) (v := .pointer (some ⟨a, 1, none⟩)) rfl (by kernel_rfl) (by kernel_rfl) (by kernel_rfl) (fun _ _ _ h => h) (Or.inl ⟨by rfl, fun w' h => by  go_simp⟩) hSS ?_
    try simp only [Act.put, z1, z2, z3, z4, z5, z6]
    refine wpAnyH_take (i := 11) (v := .string NM) rfl (by kernel_rfl) (by kernel_rfl) (by kernel_rfl) (fun _ _ _ h => h) (Or.inl ⟨by rfl, fun w' h => by have r0 := blk_cell h 1 _ rfl; go_simp⟩) hSS ?_
    try simp only [Act.put, z1, z2, z3, z4, z5, z6]
    refine wpAnyH_ready (rs := [7]) (by kernel_rfl) (by simp) ?_
    refine AllReadyH.cons rfl (fun K hK => ?_) AllReadyH.nil
    rw [if_pos (by rfl)]
    go_wp2_with fail
    refine (HHV.out).mono ?_
    rintro en w11 ⟨rfl, hb11⟩
    have hS11 : w11.heap[a]? = some (.cells #[.int .u8 111, .string NM, .int .i64 0, kv] 135) := (hb11.block _ (lt_of_block hSS)).trans hSS
    have hbw11 := hbw10.trans ((hbd.trans (hb11.mono hbd.size)).mono hbw10.size)
    have hx11 := (hb11.block _ (Nat.lt_of_lt_of_le (lt_of_block hx10) hbd.size)).trans ((hbd.block _ (lt_of_block hx10)).trans hx10)
    refine hK.out _ _ hS11 (fun hHeld => ?_)
    clear hK K
    try simp only [Act.put, z1, z2, z3, z4, z5, z6]
    refine wpAnyH_ready (rs := [12]) (by kernel_rfl) (by simp) ?_
    refine AllReadyH.cons rfl (fun K hK => ?_) AllReadyH.nil
    rw [if_pos (by rfl)]
    go_wp2_with fail
    refine (HWT.out w11).mono ?_
    rintro en w11 ⟨rfl, rfl⟩
    refine hK.out _ _ hS11 (fun hHeld => ?_)
    clear hK K
    try simp only [Act.put, z1, z2, z3, z4, z5, z6]
    refine wpAnyH_take (i := 13) (v := .bool (decide (Code.opW q ≤ r.heavy))) rfl (by kernel_rfl) (by kernel_rfl) (by kernel_rfl) (fun _ _ _ h => h) (Or.inl ⟨by rfl, fun w' h => by  go_simp⟩) hS11 ?_
    try simp only [Act.put, z1, z2, z3, z4, z5, z6]
    refine wpAnyH_take (i := 14) (v := .bool (decide (Code.opW q ≤ r.heavy))) rfl (by kernel_rfl) (by kernel_rfl) (by kernel_rfl) (fun _ _ _ h => h) (Or.inl ⟨by rfl, fun w' h => by  go_simp⟩) hS11 ?_
    try simp only [Act.put, z1, z2, z3, z4, z5, z6]
    refine wpAnyH_done (by kernel_rfl) ?_ _
    by_cases hh : Code.opW q ≤ r.heavy
    ·have HE : Hid (Code.LineOf s (.error 8)) := .heavy HLP.out HFO.out HALK.out HBD.out (Or.inr hh)
     rw [decide_eq_true hh]
     clear hh
     have n0 := blk_cell hx11 0 _ rfl
     have n1 := blk_cell hx11 1 _ rfl
     have y0 := blk_froz hx11 0
     have y1 := blk_froz hx11 1
     go_wp2
     refine bodyPost_ret (v := .tuple #[.agg #[.pointer none, .pointer none], .int .i64 8]) (by simp [results, Tryz.results32, go_sem, n0, n1]) rfl ?_
     exact ⟨Or.inr ⟨8, HE.out, rfl, by decide⟩, below_set (below_set hbw11 (Nat.le_refl _) _ _) (Nat.le_refl _) _ _⟩
    ·have HE : Hid (Code.LineOf s (.ok (.op q l, r))) := .ok HLP.out HFO.out HALK.out HBD.out hq3 (by omega)
     rw [decide_eq_false hh]
     clear hh
     have hb10' : Below w10.heap.size w10 w11 := hbd.trans (hb11.mono hbd.size)
     have hzz := hb10'.size
     have n0 := blk_cell hx11 0 _ rfl
     have n1 := blk_cell hx11 1 _ rfl
     have y0 := blk_froz hx11 0
     have y1 := blk_froz hx11 1
     go_wp2
     refine bodyPost_ret (v := .tuple #[.agg #[.pointer (some ⟨a, 0, none⟩), .pointer (some ⟨b, 0, none⟩)], .int .i64 0]) (by simp [results, Tryz.results32, go_sem, n0, n1]) rfl ?_
     have hkp : ∀ I, KeepsD w10 ((w11.setCell ⟨w.heap.size, 0, none⟩ (.pointer (some ⟨a, 0, none⟩))).setCell ⟨w.heap.size, 1, none⟩ (.pointer (some ⟨b, 0, none⟩))) I := fun I q' C T z hc hT _ => by
      have h1 := (hb10'.block q' (lt_of_block hc)).trans hc
      have hne : q' ≠ w.heap.size := by
       rintro rfl
       rw [hx10] at hc
       simp only [Option.some.injEq, Obj.cells.injEq] at hc
       rcases hT with rfl | rfl
       ·exact absurd hc.2.1 (by decide)
       ·exact absurd hc.2.1 (by decide)
      exact stay_set (stay_set h1 hne) hne
     refine ⟨Or.inl ⟨.op q l, r, a, b, HE.out, rfl, ?_, ?_⟩, below_set (below_set hbw11 (Nat.le_refl _) _ _) (Nat.le_refl _) _ _⟩
     ·exact RepD.kept (hkp _) (fun q' hq' => ⟨hq'.1, by rw [size_set, size_set]; exact Nat.lt_of_lt_of_le hq'.2 hzz⟩) _ _ HRN10.out
     ·exact RepD.kept (hkp _) (fun q' hq' => ⟨hq'.1, by rw [size_set, size_set]; exact Nat.lt_of_lt_of_le hq'.2 hzz⟩) _ _ HRR10.out
inductive LinesR (ok : Bool) : Nat → List (List UInt8) → Except (Nat × Int) (List (RTree × RTree)) → Prop
 | done {n : Nat} : ok = true → LinesR ok n [] (.ok [])
 | open_ {n : Nat} : ok = false → LinesR ok n [] (.error (n, 6))
 | idle {n : Nat} {l : List UInt8} {ll : List (List UInt8)} {o : Except (Nat × Int) (List (RTree × RTree))} : Code.idle l → LinesR ok (n + 1) ll o → LinesR ok n (l :: ll) o
 | bad {n : Nat} {l : List UInt8} {ll : List (List UInt8)} {e : Int} : ¬ Code.idle l → Code.LineOf l (.error e) → LinesR ok n (l :: ll) (.error (n, e))
 | more {n : Nat} {l : List UInt8} {ll : List (List UInt8)} {nd rs : RTree} {o : Except (Nat × Int) (List (RTree × RTree))} : ¬ Code.idle l → Code.LineOf l (.ok (nd, rs)) → LinesR ok (n + 1) ll o → LinesR ok n (l :: ll) (o.map fun l => (nd, rs) :: l)
theorem head_no (s : List UInt8) : (10 : UInt8) ∉ Code.headOf s := by
 intro h
 have := List.all_eq_true.1 (List.all_takeWhile (p := fun c : UInt8 => c != 10) (l := s)) 10 h
 simp at this
theorem lines_split {s : List UInt8} (h : 10 ∈ s) : Ref.lines s = (Code.headOf s :: (Ref.lines (Code.nextOf s)).1, (Ref.lines (Code.nextOf s)).2) := by
 obtain ⟨_, e⟩ := Code.nextOf_length h
 conv => lhs; rw [e]
 exact D.Ref.lines_app _ _ (head_no s)
theorem linesGo_none : ∀ (s cur : List UInt8), 10 ∉ s → Ref.linesGo s cur = ([], (cur ++ s).isEmpty)
 | [], cur, _ => by simp [Ref.linesGo]
 | c :: s, cur, h => by
  have hc : ¬ c = 10 := fun e => h (by rw [e]; simp)
  rw [Ref.linesGo_on c s cur hc, linesGo_none s (cur ++ [c]) (fun e => h (List.mem_cons_of_mem _ e))]
  simp
theorem lines_none {s : List UInt8} (h : 10 ∉ s) : Ref.lines s = ([], s.isEmpty) := by
 unfold Ref.lines
 rw [linesGo_none s [] h]; rfl
theorem rulesOf_lines : ∀ (m : Nat) (s : List UInt8), s.length ≤ m → ∀ (n : Nat) (o : Except (Nat × Int) (List (RTree × RTree))), LinesR (Ref.lines s).2 n (Ref.lines s).1 o → Code.RulesOf n s o
 | m, s, hm, n, o, h => by
  by_cases h10 : 10 ∈ s
  ·have hl := (Code.nextOf_length h10).1
   cases m with
   | zero => omega
   | succ m =>
    rw [lines_split h10] at h
    cases h with
    | idle h1 h2 => exact .idle h10 h1 (rulesOf_lines m _ (by omega) _ _ h2)
    | bad h1 h2 => exact .bad h10 h1 h2
    | more h1 h2 h3 => exact .more h10 h1 h2 (rulesOf_lines m _ (by omega) _ _ h3)
  ·rw [lines_none h10] at h
   cases h with
   | done h1 =>
    have : s = [] := by simpa using h1
    subst this
    exact .done
   | open_ h1 => exact .open_ (by intro e; subst e; cases h1) h10
 termination_by m => m
theorem lineOf_all (s : List UInt8) : ∃ o, Code.LineOf s o := by
 obtain ⟨h1, h2⟩ := Code.lineS_of s
 cases h : Code.lineS s with
 | error e => exact ⟨_, h1 e h⟩
 | ok p => exact ⟨_, h2 p.1 p.2.1 p.2.2 h⟩
theorem linesR_all (ok : Bool) : ∀ (ll : List (List UInt8)) (n : Nat), ∃ o, LinesR ok n ll o
 | [], n => by
  cases ok
  ·exact ⟨_, .open_ rfl⟩
  ·exact ⟨_, .done rfl⟩
 | l :: ll, n => by
  obtain ⟨o, ho⟩ := linesR_all ok ll (n + 1)
  by_cases hi : Code.idle l
  ·exact ⟨_, .idle hi ho⟩
  ·obtain ⟨q, hq⟩ := lineOf_all l
   cases q with
   | error e => exact ⟨_, .bad hi hq⟩
   | ok p => exact ⟨_, .more (nd := p.1) (rs := p.2) hi hq ho⟩
def mapD (done : List (RTree × RTree)) (o : Except (Nat × Int) (List (RTree × RTree))) : Except (Nat × Int) (List (RTree × RTree)) := o.map fun l => done ++ l
theorem mapD_app (a b : List (RTree × RTree)) (o : Except (Nat × Int) (List (RTree × RTree))) : mapD a (mapD b o) = mapD (a ++ b) o := by
 cases o with
 | error e => rfl
 | ok l => simp [mapD, Except.map]
def RepRDs (w : World) (I : Nat → Prop) (v : Value) (l : List (RTree × RTree)) : Prop :=
 ∃ cs, w.ownsRow 0 69 2 v l.length cs ∧ (∀ g, v.ownBlock = some g → I g) ∧ ∀ i (h : i < l.length), ∃ a b, cs[i * 2]? = some (.pointer (some ⟨a, 0, none⟩)) ∧ cs[i * 2 + 1]? = some (.pointer (some ⟨b, 0, none⟩)) ∧ RepRD w I (.pointer (some ⟨a, 0, none⟩)) (.pointer (some ⟨b, 0, none⟩)) l[i]
theorem RepRDs.kept {w w' : World} {I I' : Nat → Prop} {v : Value} {l : List (RTree × RTree)} (h : RepRDs w I v l) (hb : Below w.heap.size w w') (hI : ∀ b, I b → I' b) : RepRDs w' I' v l := by
 obtain ⟨cs, h1, h2, h3⟩ := h
 refine ⟨cs, own_below h1 hb, fun g hg => hI _ (h2 g hg), fun i hi => ?_⟩
 obtain ⟨a, b, g0, g1, g2, g3⟩ := h3 i hi
 exact ⟨a, b, g0, g1, RepD.kept (keepsD_below hb) hI _ _ g2, RepD.kept (keepsD_below hb) hI _ _ g3⟩
theorem RepRDs.snoc {w w3 : World} {I I' : Nat → Prop} {v v' : Value} {l : List (RTree × RTree)} {cs : List Value} {p : RTree × RTree} {a b : Nat} (h1 : w.ownsRow 0 69 2 v l.length cs)
  (h2 : ∀ i (h : i < l.length), ∃ a b, cs[i * 2]? = some (.pointer (some ⟨a, 0, none⟩)) ∧ cs[i * 2 + 1]? = some (.pointer (some ⟨b, 0, none⟩)) ∧ RepRD w I (.pointer (some ⟨a, 0, none⟩)) (.pointer (some ⟨b, 0, none⟩)) l[i])
  (h3 : w3.ownsRow 0 69 2 v' (l.length + 1) (cs ++ [.pointer (some ⟨a, 0, none⟩), .pointer (some ⟨b, 0, none⟩)])) (h4 : RepRD w I (.pointer (some ⟨a, 0, none⟩)) (.pointer (some ⟨b, 0, none⟩)) p) (hg : w.grownBy w3 v.ownBlock) (hI : ∀ b, I b → I' b) (hv : ∀ g, v'.ownBlock = some g → I' g) : RepRDs w3 I' v' (l ++ [p]) := by
 have hks : KeepsD w w3 I := fun q C T z hc hT _ => by
  refine stay_grown h1 hg hc ?_
  rcases hT with rfl | rfl
  ·decide
  ·decide
 have hl : cs.length = l.length * 2 := h1.1
 refine ⟨_, by simpa using h3, hv, fun i hi => ?_⟩
 by_cases hlt : i < l.length
 ·obtain ⟨a', b', g0, g1, g2, g3⟩ := h2 i hlt
  refine ⟨a', b', ?_, ?_, ?_⟩
  ·rw [List.getElem?_append_left (by omega)]; exact g0
  ·rw [List.getElem?_append_left (by omega)]; exact g1
  ·rw [List.getElem_append_left hlt]; exact ⟨RepD.kept hks hI _ _ g2, RepD.kept hks hI _ _ g3⟩
 ·have hi' : i = l.length := by simp at hi; omega
  subst hi'
  refine ⟨a, b, ?_, ?_, ?_⟩
  ·rw [List.getElem?_append_right (by omega), hl]; simp
  ·rw [List.getElem?_append_right (by omega), hl, show l.length * 2 + 1 - l.length * 2 = 1 by omega]; rfl
  ·have h5 : RepRD w3 I' (.pointer (some ⟨a, 0, none⟩)) (.pointer (some ⟨b, 0, none⟩)) p := ⟨RepD.kept hks hI _ _ h4.1, RepD.kept hks hI _ _ h4.2⟩
   simpa using h5
theorem own_raise {w : World} {B e size n : Nat} {v : Value} {xs : List Value} (h : w.ownsRow 0 e size v n xs) (hB : ∀ g, v.ownBlock = some g → B ≤ g) : w.ownsRow B e size v n xs := by
 refine ⟨h.1, ?_⟩
 rcases h.2 with h0 | ⟨g, cap, cur, hv, _, r⟩
 ·exact Or.inl h0
 ·exact Or.inr ⟨g, cap, cur, hv, hB g (by rw [hv]; rfl), r⟩
def RulesD (o : Except (Nat × Int) (List (RTree × RTree))) (w : World) (e : Ending) (w' : World) : Prop :=
 ((∃ rs p c, o = .ok rs ∧ e = .returned (.tuple #[.slice p rs.length c, .int .i64 0, .int .i64 0]) ∧ RepRDs w' (Fresh w w') (.slice p rs.length c) rs) ∨ (∃ n er, o = .error (n, er) ∧ e = .returned (.tuple #[.slice none 0 0, .int .i64 (n : Nat), .int .i64 er]))) ∧ Below w.heap.size w w'
theorem infoRuleD : (Tryz.prog.info? 69).map (fun i => (i.zero, i.size, i.bytes)) = some (some (.agg #[.pointer none, .pointer none]), 2, 16) := by kernel_rfl
set_option maxRecDepth 100000 in
set_option maxHeartbeats 2000000 in
theorem rulesD_long (s : List UInt8) (w : World) (hs : 3000 < s.length) : Calls Tryz.prog 12 #[.string (bs s)] w fun e w' => RulesD (.error (0, 6)) w e w' := by
 have e1 := bs_size s
 have h : (3000 : Int) < (s.length : Int) := by omega
 go_enter Tryz.func12, Tryz.ntmps12
 go_wp2
 refine bodyPost_ret (v := .tuple #[.slice none 0 0, .int .i64 0, .int .i64 6]) (by simp [results, Tryz.results12, go_sem]) rfl ?_
 exact ⟨Or.inr ⟨0, 6, rfl, rfl⟩, Below.refl _ _⟩
theorem lines_len (s : List UInt8) : (Ref.lines s).1.length ≤ s.length := by
 have key : ∀ (m : Nat) (s : List UInt8), s.length ≤ m → (Ref.lines s).1.length ≤ s.length := by
  intro m
  induction m with
  | zero =>
   intro s hs
   have : s = [] := List.eq_nil_of_length_eq_zero (by omega)
   subst this; simp [Ref.lines, Ref.linesGo]
  | succ m ih =>
   intro s hs
   by_cases h : 10 ∈ s
   ·have hl := (Code.nextOf_length h).1
    rw [lines_split h]
    have := ih (Code.nextOf s) (by omega)
    simp; omega
   ·rw [lines_none h]; simp
 exact key _ s (Nat.le_refl _)
theorem lines_each (s : List UInt8) : ∀ l ∈ (Ref.lines s).1, l.length ≤ s.length := by
 have key : ∀ (m : Nat) (s : List UInt8), s.length ≤ m → ∀ l ∈ (Ref.lines s).1, l.length ≤ s.length := by
  intro m
  induction m with
  | zero =>
   intro s hs
   have : s = [] := List.eq_nil_of_length_eq_zero (by omega)
   subst this; simp [Ref.lines, Ref.linesGo]
  | succ m ih =>
   intro s hs l hl
   by_cases h : 10 ∈ s
   ·obtain ⟨hn, he⟩ := Code.nextOf_length h
    rw [lines_split h] at hl
    have hlen := congrArg List.length he
    simp at hlen
    rcases List.mem_cons.1 hl with rfl | hl
    ·omega
    ·have := ih (Code.nextOf s) (by omega) l hl
     omega
   ·rw [lines_none h] at hl; cases hl
 exact key _ s (Nat.le_refl _)
set_option maxRecDepth 100000 in
set_option maxHeartbeats 8000000 in
theorem rulesD_short (s : List UInt8) (w : World) (hs : s.length ≤ 3000) (o : Except (Nat × Int) (List (RTree × RTree))) (ho : LinesR (Ref.lines s).2 1 (Ref.lines s).1 o) : Calls Tryz.prog 12 #[.string (bs s)] w fun e w' => RulesD o w e w' := by
 obtain ⟨i0, hi, hz0, hz1, hz2⟩ := info_parts infoRuleD
 have e1 := bs_size s
 have hlen : ¬ (3000 : Int) < (s.length : Int) := by omega
 have HLN := hide (lines_any (bs s) w (by omega))
 rw [bl_bs] at HLN
 have hll := lines_len s
 have HEA := hide (lines_each s)
 have HO := hide ho
 clear ho
 generalize (Ref.lines s).1 = ll at *
 generalize (Ref.lines s).2 = ok at *
 go_enter Tryz.func12, Tryz.ntmps12
 go_wp2_with fail
 refine (HLN.out).mono ?_
 rintro en w1 ⟨lv, rfl, hlv, hb1⟩
 obtain ⟨lp, lc, rfl⟩ := own_slice hlv
 have hlc : ll.length ≤ lc := own_cap hlv
 have HLV := hide hlv
 clear hlv HLN
 go_wp2_with fail
 go_loopw [7, 8] (fun ov iv wr => ∃ (j : Nat) (p : Option Addr) (c : Nat) (done : List (RTree × RTree)) (o' : Except (Nat × Int) (List (RTree × RTree))), ov = .slice p done.length c ∧ iv = .int .i64 (j : Nat) ∧ j ≤ ll.length ∧ done.length ≤ j ∧ RepRDs wr (Fresh w1 wr) (.slice p done.length c) done ∧ Below w1.heap.size w1 wr ∧ Hid (LinesR ok (j + 1) (ll.drop j) o') ∧ Hid (o = mapD done o')) (fun _ iv _ => ll.length - (intOf iv).toNat)
 case atStart =>
  refine ⟨0, none, 0, [], o, rfl, rfl, by omega, by simp, ⟨[], ⟨rfl, Or.inl ⟨rfl, rfl⟩⟩, fun g h => (nomatch h), fun i h => by simp at h⟩, Below.refl _ _, HO, ?_⟩
  cases o with
  | error e => exact rfl
  | ok l => exact rfl
 case round =>
  obtain ⟨j, p, c, done, o', rfl, rfl, hj, hdj, hrep, hbw, hLR, hOO⟩ := hrel
  clear HO
  have hbw0 : Below w.heap.size w wr := hb1.trans (hbw.mono hb1.size)
  have HREP := hide hrep
  clear hrep
  by_cases hlt : j < ll.length
  ·obtain ⟨g, cap, hge, hBg, hgl, hcell⟩ := row_open (own_below HLV.out hbw) (by omega)
   simp only [Value.slice.injEq] at hge
   obtain ⟨rfl, _, rfl⟩ := hge
   have e0 := hcell j _ (strs_get ll j hlt)
   have hjl : (j : Int) < (ll.length : Int) := by omega
   have hdrop : ll.drop j = ll[j] :: ll.drop (j + 1) := List.drop_eq_getElem_cons hlt
   have HLR : Hid (LinesR ok (j + 1) (ll[j] :: ll.drop (j + 1)) o') := by rw [← hdrop]; exact hLR
   have hla := HEA.out ll[j] (List.getElem_mem hlt)
   have hnil := str_nil ll[j]
   have hidle : Code.idle ll[j] ↔ (ll[j] = [] ∨ (ll[j]).head? = some 59) := Iff.rfl
   clear hcell hdrop hLR
   generalize ll[j] = a at *
   by_cases ha : Code.idle a
   ·have HN : Hid (LinesR ok (j + 1 + 1) (ll.drop (j + 1)) o') := by
     cases HLR.out with
     | idle _ h => exact h
     | bad h _ => exact absurd ha h
     | more h _ _ => exact absurd ha h
    rcases hidle.1 ha with ha0 | ha1
    ·rw [decide_eq_true ha0] at hnil
     clear ha ha0 hidle HLR
     go_wp2
     exact ⟨⟨j + 1, p, c, done, o', rfl, by go_num, by omega, by omega, HREP.out, hbw, HN, hOO⟩, by simp [intOf]; omega⟩
    ·obtain ⟨a', rfl⟩ : ∃ a', a = 59 :: a' := by
      cases a with
      | nil => cases ha1
      | cons c a' => simp at ha1; exact ⟨a', by rw [ha1]⟩
     have hpos : 0 < (bs (59 :: a')).size := by rw [bs_size]; simp
     have hq : (((bs (59 :: a'))[0]'hpos).toNat : Int) = 59 := by rw [bs_get _ 0 (by simp)]; rfl
     rw [decide_eq_false (by simp)] at hnil
     clear ha ha1 hidle HLR
     generalize hA : 59 :: a' = A at *
     go_wp2
     exact ⟨⟨j + 1, p, c, done, o', rfl, by go_num, by omega, by omega, HREP.out, hbw, HN, hOO⟩, by simp [intOf]; omega⟩
   ·have hne : a ≠ [] := fun h => ha (hidle.2 (Or.inl h))
    have hpos' : 0 < a.length := List.length_pos_iff.2 hne
    have hpos : 0 < (bs a).size := by rw [bs_size]; exact hpos'
    have hq : ¬ (((bs a)[0]'hpos).toNat : Int) = 59 := by
     rw [bs_get a 0 hpos']
     intro h
     refine ha (hidle.2 (Or.inr ?_))
     rw [List.head?_eq_getElem?, List.getElem?_eq_getElem hpos']
     congr 1
     exact UInt8.toNat.inj (by have : (a[0].toNat : Int) = 59 := h; show a[0].toNat = 59; omega)
    have hq2 : ((((bs a)[0]'hpos).toNat : Int) == 59) = false := beq_eq_false_iff_ne.2 hq
    rw [decide_eq_false hne] at hnil
    have HS3 : Hid ((∃ e, Code.LineOf a (.error e) ∧ o' = .error (j + 1, e)) ∨ (∃ nd rs o2, Code.LineOf a (.ok (nd, rs)) ∧ LinesR ok (j + 1 + 1) (ll.drop (j + 1)) o2 ∧ o' = mapD [(nd, rs)] o2)) := by
     cases HLR.out with
     | idle h _ => exact absurd h ha
     | bad _ h => exact Or.inl ⟨_, h, rfl⟩
     | more _ h h2 => exact Or.inr ⟨_, _, _, h, h2, rfl⟩
    clear ha hne hidle HLR
    have HRU := hide (ruleD_any a wr (by omega))
    go_wp2_with fail
    refine (HRU.out).mono ?_
    rintro en w3 ⟨⟨nd, rs, pa, pb, hc, rfl, hrd⟩ | ⟨er, hc, rfl, her⟩, hb3⟩
    case inr =>
     have HFIN : Hid (o = .error (j + 1, er)) := by
      rcases HS3.out with ⟨e, h1, h2⟩ | ⟨_, _, _, h1, _⟩
      ·have := Code.LineOf.det hc h1
       simp only [Except.error.injEq] at this
       rw [hOO.out, h2, this]; exact rfl
      ·cases Code.LineOf.det hc h1
     have hb3' := hbw0.trans (hb3.mono hbw0.size)
     have hern : (er == 0) = false := beq_eq_false_iff_ne.2 her
     clear hc HS3 hOO her
     go_wp2
     refine bodyPost_ret (v := .tuple #[.slice none 0 0, .int .i64 ((j : Int) + 1), .int .i64 er]) (by simp [results, Tryz.results12, go_sem]) rfl ?_
     exact ⟨Or.inr ⟨j + 1, er, HFIN.out, rfl⟩, below_al hb3' _⟩
    obtain ⟨o2, HN2, HO2⟩ : ∃ o2, Hid (LinesR ok (j + 1 + 1) (ll.drop (j + 1)) o2) ∧ Hid (o = mapD (done ++ [(nd, rs)]) o2) := by
     rcases HS3.out with ⟨e, h1, h2⟩ | ⟨nd', rs', o2, h1, h2, h3⟩
     ·cases Code.LineOf.det hc h1
     ·have := Code.LineOf.det hc h1
      simp only [Except.ok.injEq, Prod.mk.injEq] at this
      obtain ⟨rfl, rfl⟩ := this
      exact ⟨o2, h2, by rw [hOO.out, h3, mapD_app]; exact rfl⟩
    have hb13 : Below w1.heap.size w1 w3 := hbw.trans (hb3.mono hbw.size)
    have hb03 := hbw0.trans (hb3.mono hbw0.size)
    have hz03 := hb03.size
    have hzr := hbw.size
    have hz3 := hb3.size
    obtain ⟨cs, hcs1, hcsI, hcs2⟩ := HREP.out.kept (I' := Fresh w1 w3) hb3 (fun b hb => ⟨hb.1, Nat.lt_of_lt_of_le hb.2 hz3⟩)
    have HCS := hide hcs2
    have HCI := hide hcsI
    have HRD : Hid (RepRD w3 (Fresh w1 w3) (.pointer (some ⟨pa, 0, none⟩)) (.pointer (some ⟨pb, 0, none⟩)) (nd, rs)) :=
     ⟨RepD.kept (keepsD_refl _ _) (fun b hb => ⟨Nat.le_trans hzr hb.1, hb.2⟩) _ _ hrd.1, RepD.kept (keepsD_refl _ _) (fun b hb => ⟨Nat.le_trans hzr hb.1, hb.2⟩) _ _ hrd.2⟩
    clear hc HS3 hOO hrd hcs2 HREP hcsI
    have hcs1' : w3.ownsRow w1.heap.size 69 2 (.slice p done.length c) done.length cs := own_raise hcs1 (fun g' hg' => (HCI.out g' hg').1)
    clear hcs1
    go_wp2_with (first | (at_builtin; refine wpList_append_own _ rfl _ _ 26 rfl w1.heap.size 69 i0 (.agg #[.pointer none, .pointer none]) 2 16 Tryz.underlying26 hi hz0 hz1 hz2 rfl (by decide) _ _ _ rfl ((hcs1'.alloc _).alloc _) ⟨_, 0, none⟩ 1 1 [.pointer (some ⟨pa, 0, none⟩), .pointer (some ⟨pb, 0, none⟩)] rfl rfl (cells_at _ _ _ _ (by simp)) (fun x hx => by simp at hx; rcases hx with rfl | rfl <;> rfl) (by unfold maxLen; omega) (by omega) (by simp; omega) ?_; intro v' w6 hown' hgrow6 hnil6; obtain ⟨vp, vc, rfl⟩ := own_slice hown'))
    have hba : Below w3.heap.size w3 ((w3.alloc (.cells #[.pointer (some ⟨pa, 0, none⟩), .pointer (some ⟨pb, 0, none⟩)] 69)).alloc (.cells #[.pointer (some ⟨pa, 0, none⟩), .pointer (some ⟨pb, 0, none⟩)] 69)) := below_al (below_al (Below.refl _ _) _) _
    have hz6 : w3.heap.size + 2 ≤ w6.heap.size := by have := hgrow6.size; simpa using this
    have hb6 := below_al (below_al hb13 (.cells #[.pointer (some ⟨pa, 0, none⟩), .pointer (some ⟨pb, 0, none⟩)] 69)) (.cells #[.pointer (some ⟨pa, 0, none⟩), .pointer (some ⟨pb, 0, none⟩)] 69)
    refine ⟨⟨j + 1, vp, vc, done ++ [(nd, rs)], o2, by simp, by go_num, by omega, by simp; omega, ?_, ?_, HN2, HO2⟩, by simp [intOf]; omega⟩
    ·rw [List.length_append]
     refine RepRDs.snoc (I := Fresh w1 w3) (own_base ((hcs1'.alloc _).alloc _) (Nat.zero_le _)) (fun i h => ?_) (own_base hown' (Nat.zero_le _)) ⟨RepD.kept (keepsD_below hba) (fun _ h => h) _ _ HRD.out.1, RepD.kept (keepsD_below hba) (fun _ h => h) _ _ HRD.out.2⟩ hgrow6 (fun b hb => ⟨hb.1, by have := hb.2; omega⟩) (fun g' hg' => hown'.lt g' hg')
     obtain ⟨a2, b2, g0, g1, g2, g3⟩ := HCS.out i h
     exact ⟨a2, b2, g0, g1, RepD.kept (keepsD_below hba) (fun _ h => h) _ _ g2, RepD.kept (keepsD_below hba) (fun _ h => h) _ _ g3⟩
    ·exact ⟨hgrow6.os.trans hb6.os, hgrow6.tape.trans hb6.tape, hgrow6.output.trans hb6.output, Nat.le_trans hb6.size hgrow6.size, fun q hq => (hgrow6.block q (by have := hb6.size; omega) (fun e => by have := (HCI.out q e.symm).1; omega)).trans (hb6.block q hq)⟩
  ·have hjn : j = ll.length := by omega
   cases ok with
   | true =>
    have HFIN : Hid (o = .ok done) := by
     have h := hLR.out
     rw [hjn, List.drop_length] at h
     cases h with
     | done _ => rw [hOO.out]; simp [Hid, mapD, Except.map]
     | open_ h => cases h
    clear hLR hOO
    go_wp2
    refine bodyPost_ret (v := .tuple #[.slice p done.length c, .int .i64 0, .int .i64 0]) (by simp [results, Tryz.results12, go_sem]) rfl ?_
    exact ⟨Or.inl ⟨done, p, c, HFIN.out, rfl, HREP.out.kept (Below.refl _ _) (fun b hb => ⟨Nat.le_trans hb1.size hb.1, hb.2⟩)⟩, hbw0⟩
   | false =>
    have HFIN : Hid (o = .error (ll.length + 1, 6)) := by
     have h := hLR.out
     rw [hjn, List.drop_length] at h
     cases h with
     | done h => cases h
     | open_ _ => rw [hOO.out]; exact rfl
    clear hLR hOO
    go_wp2
    refine bodyPost_ret (v := .tuple #[.slice none 0 0, .int .i64 ((ll.length : Int) + 1), .int .i64 6]) (by simp [results, Tryz.results12, go_sem]) rfl ?_
    exact ⟨Or.inr ⟨ll.length + 1, 6, HFIN.out, rfl⟩, hbw0⟩
end Go.Proofs.YtedkjanogjglkaaGreatDoor.D
