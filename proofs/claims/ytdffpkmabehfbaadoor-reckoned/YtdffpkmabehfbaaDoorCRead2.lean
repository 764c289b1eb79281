/-
  Walks: code.reader: ifLast, last.
-/
import Derived.Test.YtdffpkmabehfbaaDoorCRead
namespace Go.Proofs.YtdffpkmabehfbaaDoor
open Go.RowKit

namespace Code
theorem target_some {s t : List UInt8} {n : Nat} (h : target s = some (n, t)) : n ≤ 8 ∧ t.length < s.length := by
  unfold target at h
  cases hn : cut [98] s with
  | none => rw [hn] at h; cases h
  | some r =>
    rw [hn] at h
    simp only [Option.bind_some] at h
    cases hm : number r with
    | none => rw [hm] at h; cases h
    | some p =>
      rw [hm] at h
      simp only [Option.map_some, Option.some.injEq, Prod.mk.injEq] at h
      have h2 := cut_length hn
      have h3 := number_length (show number r = some (p.1, p.2) from hm)
      simp at h2
      rw [← h.1, ← h.2]
      omega
end Code

theorem Rd.lt {w : World} {rb : Nat} {T : TypeId} {s : List UInt8} {l why : Int} {X : List Value} (h : Rd w rb T s l why X) : rb < w.heap.size := lt_of_block h

theorem fails_pre {w w1 w2 : World} {rb : Nat} {why : Int} {e : Ending} (h : w.grownBy w1 (some rb)) (hf : Fails w1 rb why e w2) : Fails w rb why e w2 := ⟨hf.1, grown_trans h hf.2⟩

set_option maxHeartbeats 2000000 in
theorem ifLast_any (rb : Nat) (s : List UInt8) (l : Int) (a : Nat) (w : World) (hr : RdF w rb s l a) (hs : s.length ≤ 3000) :
    Calls Tryd.prog 60 #[.pointer (some ⟨rb, 0, none⟩)] w fun e w' =>
      (∃ v x y t, Code.ifLast s = some (.ifs v x y, t) ∧ e = .returned (.agg #[.int .i64 (v : Nat), .int .i64 (x : Nat), .int .i64 (y : Nat)]) ∧ RdF w' rb t l a ∧ w.grownBy w' (some rb)) ∨ (Code.ifLast s = none ∧ Fails w rb 1 e w') := by
  go_enter Tryd.func60, Tryd.ntmps60
  go_wp2_with fail
  have hrb := hr.lt
  generalize hw0 : w.alloc _ = w0
  have hg0 : w.grownBy w0 (some rb) := by rw [← hw0]; exact grown_alloc _ _ _
  have hr0 : RdF w0 rb s l a := by rw [← hw0]; exact stay_alloc hr
  have HW0 := hide hw0
  clear hw0
  refine (take_any rb _ s [32] l 1 _ w0 hr0 hs (by simp)).mono ?_
  rintro e w1 (⟨r1, hc, rfl, hr1, hg1⟩ | ⟨hc, ⟨l', rfl⟩, hg1⟩)
  case inr =>
    go_wp2
    exact ⟨rfl, Or.inr ⟨by simp [Code.ifLast, hc], ⟨l', rfl⟩, grown_trans hg0 hg1⟩⟩
  have H1 : Hid (Code.ifLast s = (Code.value r1).bind fun p => (Code.cut [32] p.2).bind fun r => (Code.target r).bind fun q => (Code.cut [32] q.2).bind fun r => (Code.target r).map fun z => (.ifs p.1 q.1 z.1, z.2)) := by
    simp only [Hid, Code.ifLast, hc, Option.bind_some]
  have l1 := Code.cut_length hc
  clear hc
  go_wp2_with fail
  refine (value_any rb r1 l a w1 hr1 (by omega)).mono ?_
  rintro e w2 (⟨v, r2, hc, rfl, hr2, hg2⟩ | ⟨hc, ⟨l', rfl⟩, hg2⟩)
  case inr =>
    go_wp2
    exact ⟨rfl, Or.inr ⟨by rw [H1.out, hc]; rfl, ⟨l', rfl⟩, grown_trans hg0 (grown_trans hg1 hg2)⟩⟩
  have H2 : Hid (Code.ifLast s = (Code.cut [32] r2).bind fun r => (Code.target r).bind fun q => (Code.cut [32] q.2).bind fun r => (Code.target r).map fun z => (.ifs v q.1 z.1, z.2)) := by
    rw [H1.out, hc]; exact rfl
  have l2 := (Code.value_some hc).2
  clear hc H1
  go_wp2_with fail
  refine (take_any rb _ r2 [32] l 1 _ w2 hr2 (by omega) (by simp)).mono ?_
  rintro e w3 (⟨r3, hc, rfl, hr3, hg3⟩ | ⟨hc, ⟨l', rfl⟩, hg3⟩)
  case inr =>
    go_wp2
    exact ⟨rfl, Or.inr ⟨by rw [H2.out, hc]; rfl, ⟨l', rfl⟩, grown_trans hg0 (grown_trans hg1 (grown_trans hg2 hg3))⟩⟩
  have H3 : Hid (Code.ifLast s = (Code.target r3).bind fun q => (Code.cut [32] q.2).bind fun r => (Code.target r).map fun z => (.ifs v q.1 z.1, z.2)) := by
    rw [H2.out, hc]; exact rfl
  have l3 := Code.cut_length hc
  clear hc H2
  have hg3' := grown_trans hg0 (grown_trans hg1 (grown_trans hg2 hg3))
  have hgn3 := grown_trans hg1 (grown_trans hg2 hg3)
  clear hg1 hg2 hg3
  go_wp2_with fail
  refine (target_any rb r3 l a w3 hr3 (by omega)).mono ?_
  rintro e w4 (⟨x, r4, hc, rfl, hr4, hg4⟩ | ⟨hc, ⟨l', rfl⟩, hg4⟩)
  case inr =>
    go_wp2
    exact ⟨rfl, Or.inr ⟨by rw [H3.out, hc]; rfl, ⟨l', rfl⟩, grown_trans hg3' hg4⟩⟩
  have H4 : Hid (Code.ifLast s = (Code.cut [32] r4).bind fun r => (Code.target r).map fun z => (.ifs v x z.1, z.2)) := by
    rw [H3.out, hc]; exact rfl
  have l4 := (Code.target_some hc).2
  clear hc H3
  go_wp2_with fail
  refine (take_any rb _ r4 [32] l 1 _ w4 hr4 (by omega) (by simp)).mono ?_
  rintro e w5 (⟨r5, hc, rfl, hr5, hg5⟩ | ⟨hc, ⟨l', rfl⟩, hg5⟩)
  case inr =>
    go_wp2
    exact ⟨rfl, Or.inr ⟨by rw [H4.out, hc]; rfl, ⟨l', rfl⟩, grown_trans hg3' (grown_trans hg4 hg5)⟩⟩
  have H5 : Hid (Code.ifLast s = (Code.target r5).map fun z => (.ifs v x z.1, z.2)) := by
    rw [H4.out, hc]; exact rfl
  have l5 := Code.cut_length hc
  clear hc H4
  go_wp2_with fail
  refine (target_any rb r5 l a w5 hr5 (by omega)).mono ?_
  rintro e w6 (⟨y, r6, hc, rfl, hr6, hg6⟩ | ⟨hc, ⟨l', rfl⟩, hg6⟩)
  case inr =>
    go_wp2
    exact ⟨rfl, Or.inr ⟨by rw [H5.out, hc]; rfl, ⟨l', rfl⟩, grown_trans hg3' (grown_trans hg4 (grown_trans hg5 hg6))⟩⟩
  have H6 : Hid (Code.ifLast s = some (.ifs v x y, r6)) := by
    rw [H5.out, hc]; exact rfl
  clear hc H5
  have hgn : w0.grownBy w6 (some rb) := grown_trans hgn3 (grown_trans hg4 (grown_trans hg5 hg6))
  have hgw := grown_trans hg0 hgn
  have hnew := HW0.out ▸ hgn
  have hb := new_kept hnew hrb
  have hc0 := blk_cell hb 0 _ rfl
  have hc1 := blk_cell hb 1 _ rfl
  have hc2 := blk_cell hb 2 _ rfl
  have hf0 := blk_froz hb 0
  have hf1 := blk_froz hb 1
  have hf2 := blk_froz hb 2
  go_wp2
  refine bodyPost_ret (v := .agg #[.int .i64 (v : Nat), .int .i64 (x : Nat), .int .i64 (y : Nat)]) (by simp [results, Tryd.results60, go_sem, hc0, hc1, hc2]) rfl ?_
  have hne : rb ≠ w.heap.size := by omega
  exact Or.inl ⟨v, x, y, r6, H6.out, rfl, stay_set (stay_set (stay_set hr6 hne) hne) hne, grown_new (grown_new (grown_new hgw (Nat.le_refl _) _ _) (Nat.le_refl _) _ _) (Nat.le_refl _) _ _⟩

/-- The last line of a block, as a value. -/
def lastV : Code.Last → Value
  | .ret v => .iface 75 (.agg #[.int .i64 (v : Nat)])
  | .jump to => .iface 101 (.agg #[.int .i64 (to : Nat)])
  | .ifs v x y => .iface 77 (.agg #[.int .i64 (v : Nat), .int .i64 (x : Nat), .int .i64 (y : Nat)])

theorem word_no {s q : List UInt8} (h : Code.word s ≠ q) : ((bs (Code.word s)).toList == q) = false := toList_no (by rw [bl_bs]; exact h)
theorem word_yes {s q : List UInt8} (h : Code.word s = q) : ((bs (Code.word s)).toList == q) = true := toList_yes (by rw [bl_bs]; exact h)

set_option maxHeartbeats 2000000 in
theorem last_any (rb : Nat) (s : List UInt8) (l : Int) (a : Nat) (w : World) (hr : RdF w rb s l a) (hs : s.length ≤ 3000) :
    Calls Tryd.prog 42 #[.pointer (some ⟨rb, 0, none⟩)] w fun e w' =>
      (∃ z t, Code.last s = some (z, t) ∧ e = .returned (lastV z) ∧ RdF w' rb t l a ∧ w.grownBy w' (some rb)) ∨ (Code.last s = none ∧ Fails w rb 1 e w') := by
  have hlb : (Code.behind s).length ≤ 3000 := Nat.le_trans (Code.rest_length _ _ _) hs
  by_cases h1 : Code.word s = Code.sRet
  · have HL : Hid (Code.last s = (Code.cut [32] (Code.behind s)).bind fun r => (Code.value r).map fun p => (.ret p.1, p.2)) := by simp only [Hid, Code.last, if_pos h1]
    have q1 := word_yes h1
    unfold Code.sRet at q1
    clear h1
    go_enter Tryd.func42, Tryd.ntmps42
    go_wp2_with fail
    refine (letters_any rb _ s l 1 _ w hr hs).mono ?_
    rintro e w1 ⟨rfl, hr1, hg1⟩
    generalize Code.word s = ww at *
    generalize Code.behind s = bb at *
    go_wp2_with fail
    refine (take_any rb _ bb [32] l 1 _ w1 hr1 hlb (by simp)).mono ?_
    rintro e w2 (⟨r2, hc, rfl, hr2, hg2⟩ | ⟨hc, ⟨l', rfl⟩, hg2⟩)
    case inr =>
      go_wp2
      exact ⟨rfl, Or.inr ⟨by rw [HL.out, hc]; rfl, ⟨l', rfl⟩, grown_trans hg1 hg2⟩⟩
    have H2 : Hid (Code.last s = (Code.value r2).map fun p => (.ret p.1, p.2)) := by rw [HL.out, hc]; exact rfl
    have l2 := Code.cut_length hc
    clear hc HL
    go_wp2_with fail
    refine (value_any rb r2 l a w2 hr2 (by omega)).mono ?_
    rintro e w3 (⟨v, r3, hc, rfl, hr3, hg3⟩ | ⟨hc, ⟨l', rfl⟩, hg3⟩)
    case inr =>
      go_wp2
      exact ⟨rfl, Or.inr ⟨by rw [H2.out, hc]; rfl, ⟨l', rfl⟩, grown_trans hg1 (grown_trans hg2 hg3)⟩⟩
    have H3 : Hid (Code.last s = some (.ret v, r3)) := by rw [H2.out, hc]; exact rfl
    clear hc H2
    go_wp2
    go_ret
    exact Or.inl ⟨.ret v, r3, H3.out, rfl, hr3, grown_trans hg1 (grown_trans hg2 hg3)⟩
  by_cases h2 : Code.word s = Code.sJump
  · have HL : Hid (Code.last s = (Code.cut [32] (Code.behind s)).bind fun r => (Code.target r).map fun p => (.jump p.1, p.2)) := by simp only [Hid, Code.last, if_neg h1, if_pos h2]
    have q1 := word_no h1
    have q2 := word_yes h2
    unfold Code.sRet at q1
    unfold Code.sJump at q2
    clear h1 h2
    go_enter Tryd.func42, Tryd.ntmps42
    go_wp2_with fail
    refine (letters_any rb _ s l 1 _ w hr hs).mono ?_
    rintro e w1 ⟨rfl, hr1, hg1⟩
    generalize Code.word s = ww at *
    generalize Code.behind s = bb at *
    go_wp2_with fail
    refine (take_any rb _ bb [32] l 1 _ w1 hr1 hlb (by simp)).mono ?_
    rintro e w2 (⟨r2, hc, rfl, hr2, hg2⟩ | ⟨hc, ⟨l', rfl⟩, hg2⟩)
    case inr =>
      go_wp2
      exact ⟨rfl, Or.inr ⟨by rw [HL.out, hc]; rfl, ⟨l', rfl⟩, grown_trans hg1 hg2⟩⟩
    have H2 : Hid (Code.last s = (Code.target r2).map fun p => (.jump p.1, p.2)) := by rw [HL.out, hc]; exact rfl
    have l2 := Code.cut_length hc
    clear hc HL
    go_wp2_with fail
    refine (target_any rb r2 l a w2 hr2 (by omega)).mono ?_
    rintro e w3 (⟨v, r3, hc, rfl, hr3, hg3⟩ | ⟨hc, ⟨l', rfl⟩, hg3⟩)
    case inr =>
      go_wp2
      exact ⟨rfl, Or.inr ⟨by rw [H2.out, hc]; rfl, ⟨l', rfl⟩, grown_trans hg1 (grown_trans hg2 hg3)⟩⟩
    have H3 : Hid (Code.last s = some (.jump v, r3)) := by rw [H2.out, hc]; exact rfl
    clear hc H2
    go_wp2
    go_ret
    exact Or.inl ⟨.jump v, r3, H3.out, rfl, hr3, grown_trans hg1 (grown_trans hg2 hg3)⟩
  by_cases h3 : Code.word s = Code.sIf
  · have HL : Hid (Code.last s = Code.ifLast (Code.behind s)) := by simp only [Hid, Code.last, if_neg h1, if_neg h2, if_pos h3]
    have q1 := word_no h1
    have q2 := word_no h2
    have q3 := word_yes h3
    unfold Code.sRet at q1
    unfold Code.sJump at q2
    unfold Code.sIf at q3
    clear h1 h2 h3
    go_enter Tryd.func42, Tryd.ntmps42
    go_wp2_with fail
    refine (letters_any rb _ s l 1 _ w hr hs).mono ?_
    rintro e w1 ⟨rfl, hr1, hg1⟩
    generalize Code.word s = ww at *
    generalize Code.behind s = bb at *
    go_wp2_with fail
    refine (ifLast_any rb bb l a w1 hr1 hlb).mono ?_
    rintro e w2 (⟨v, x, y, r2, hc, rfl, hr2, hg2⟩ | ⟨hc, ⟨l', rfl⟩, hg2⟩)
    case inr =>
      go_wp2
      exact ⟨rfl, Or.inr ⟨by rw [HL.out, hc], ⟨l', rfl⟩, grown_trans hg1 hg2⟩⟩
    have H3 : Hid (Code.last s = some (.ifs v x y, r2)) := by rw [HL.out, hc]; exact rfl
    clear hc HL
    go_wp2
    go_ret
    exact Or.inl ⟨.ifs v x y, r2, H3.out, rfl, hr2, grown_trans hg1 hg2⟩
  · have HL : Hid (Code.last s = none) := by simp only [Hid, Code.last, if_neg h1, if_neg h2, if_neg h3]
    have q1 := word_no h1
    have q2 := word_no h2
    have q3 := word_no h3
    unfold Code.sRet at q1
    unfold Code.sJump at q2
    unfold Code.sIf at q3
    clear h1 h2 h3
    go_enter Tryd.func42, Tryd.ntmps42
    go_wp2_with fail
    refine (letters_any rb _ s l 1 _ w hr hs).mono ?_
    rintro e w1 ⟨rfl, hr1, hg1⟩
    generalize Code.word s = ww at *
    generalize Code.behind s = bb at *
    go_wp2_with fail
    refine (fail_any rb _ bb l 1 _ w1 hr1).mono ?_
    rintro e w2 ⟨⟨l', rfl⟩, hg2⟩
    go_wp2
    exact ⟨rfl, Or.inr ⟨HL.out, ⟨l', rfl⟩, grown_trans hg1 hg2⟩⟩
end Go.Proofs.YtdffpkmabehfbaaDoor
