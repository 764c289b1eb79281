/-
  Walk: code.reader.block, of a text that is right.
-/
import Derived.Test.YtdffpkmabehfbaaDoorCValues
namespace Go.Proofs.YtdffpkmabehfbaaDoor
open Go.RowKit

namespace Code
/-- A block of that number at the head of a text, and what is behind it. -/
inductive BlockIs (a num : Nat) : List UInt8 → Blk → List UInt8 → Prop
  | mk {s r1 r2 r3 r4 r5 r6 r7 : List UInt8} {vals : List Val} {z : Last} : cut [98] s = some r1 → below 8 r1 = some (num, r2) → cut [58] r2 = some r3 → cut [10] r3 = some r4 → ValuesOf a true r4 (some (vals, r5)) → last r5 = some (z, r6) → cut [10] r6 = some r7 → BlockIs a num s ⟨vals, z⟩ r7

/-- Blocks from that number on, up to the text's end. -/
inductive BlocksIs (a : Nat) : Nat → List UInt8 → List Blk → Prop
  | nil {n : Nat} : BlocksIs a n [] []
  | cons {n : Nat} {s r : List UInt8} {b : Blk} {bs : List Blk} : s ≠ [] → BlockIs a n s b r → BlocksIs a (n + 1) r bs → BlocksIs a n s (b :: bs)

def sFunc : List UInt8 := [102, 117, 110, 99, 32]

/-- The text is that function, written. -/
inductive FnIs : List UInt8 → Fn → Prop
  | mk {s r1 r2 r3 r4 : List UInt8} {args : Nat} {b : Blk} {bs : List Blk} : cut sFunc s = some r1 → below 5 r1 = some (args, r2) → cut [10] r2 = some r3 → BlockIs args 0 r3 b r4 → BlocksIs args 1 r4 bs → FnIs s ⟨args, b :: bs⟩

theorem last_length {s t : List UInt8} {z : Last} (h : last s = some (z, t)) : t.length ≤ s.length := by
  have hb : (behind s).length ≤ s.length := rest_length _ _ _
  unfold last at h
  split at h
  · cases hc : cut [32] (behind s) with
    | none => rw [hc] at h; cases h
    | some r =>
      rw [hc] at h
      simp only [Option.bind_some] at h
      cases hv : value r with
      | none => rw [hv] at h; cases h
      | some p =>
        rw [hv] at h
        simp only [Option.map_some, Option.some.injEq, Prod.mk.injEq] at h
        have h1 := cut_length hc
        have h2 := (value_some (show value r = some (p.1, p.2) from hv)).2
        rw [← h.2]; omega
  · split at h
    · cases hc : cut [32] (behind s) with
      | none => rw [hc] at h; cases h
      | some r =>
        rw [hc] at h
        simp only [Option.bind_some] at h
        cases hv : target r with
        | none => rw [hv] at h; cases h
        | some p =>
          rw [hv] at h
          simp only [Option.map_some, Option.some.injEq, Prod.mk.injEq] at h
          have h1 := cut_length hc
          have h2 := (target_some (show target r = some (p.1, p.2) from hv)).2
          rw [← h.2]; omega
    · split at h
      · unfold ifLast at h
        cases hc : cut [32] (behind s) with
        | none => rw [hc] at h; cases h
        | some r =>
          rw [hc] at h
          simp only [Option.bind_some] at h
          cases hv : value r with
          | none => rw [hv] at h; cases h
          | some p =>
            rw [hv] at h
            simp only [Option.bind_some] at h
            cases hc2 : cut [32] p.2 with
            | none => rw [hc2] at h; cases h
            | some r2 =>
              rw [hc2] at h
              simp only [Option.bind_some] at h
              cases hv2 : target r2 with
              | none => rw [hv2] at h; cases h
              | some p2 =>
                rw [hv2] at h
                simp only [Option.bind_some] at h
                cases hc3 : cut [32] p2.2 with
                | none => rw [hc3] at h; cases h
                | some r3 =>
                  rw [hc3] at h
                  simp only [Option.bind_some] at h
                  cases hv3 : target r3 with
                  | none => rw [hv3] at h; cases h
                  | some p3 =>
                    rw [hv3] at h
                    simp only [Option.map_some, Option.some.injEq, Prod.mk.injEq] at h
                    have h1 := cut_length hc
                    have h2 := (value_some (show value r = some (p.1, p.2) from hv)).2
                    have h3 := cut_length hc2
                    have h4 := (target_some (show target r2 = some (p2.1, p2.2) from hv2)).2
                    have h5 := cut_length hc3
                    have h6 := (target_some (show target r3 = some (p3.1, p3.2) from hv3)).2
                    rw [← h.2]; omega
      · cases h
end Code

set_option maxRecDepth 100000 in
set_option maxHeartbeats 4000000 in
theorem block_ok (rb : Nat) (s t : List UInt8) (num : Nat) (blk : Code.Blk) (l : Int) (a : Nat) (w : World) (hr : RdF w rb s l a) (hs : s.length ≤ 3000) (hl : 0 ≤ l ∧ l + s.length ≤ 100000) (ht : Tab w) (hrb : 0 < rb) (hb : Code.BlockIs a num s blk t) :
    Calls Tryd.prog 31 #[.pointer (some ⟨rb, 0, none⟩), .int .i64 (num : Nat)] w fun e w' =>
      ∃ p c l', e = .returned (.agg #[.slice p blk.values.length c, lastV blk.last]) ∧ RepVals w' w.heap.size (.slice p blk.values.length c) blk.values ∧ RdF w' rb t l' a ∧ 0 ≤ l' ∧ l' + t.length ≤ 100000 ∧ t.length < s.length ∧ w.grownBy w' (some rb) := by
  obtain ⟨hl0, hl1⟩ := hl
  cases hb with
  | mk h1 h2 h3 h4 h5 h6 h7 =>
    rename_i r1 r2 r3 r4 r5 r6 vals z
    have l1 := Code.cut_length h1
    have l2 := (Code.below_some h2).2
    have l3 := Code.cut_length h3
    have l4 := Code.cut_length h4
    have l6 := Code.last_length h6
    have l7 := Code.cut_length h7
    simp only [List.length_cons, List.length_nil] at l1 l3 l4 l7
    have H1 := hide h1
    have H2 := hide h2
    have H3 := hide h3
    have H4 := hide h4
    have H5 := hide h5
    have H6 := hide h6
    have H7 := hide h7
    have HT := hide ht
    clear h1 h2 h3 h4 h5 h6 h7 ht
    have hrlt := hr.lt
    go_enter Tryd.func31, Tryd.ntmps31
    go_wp2_with fail
    generalize hw0 : w.alloc _ = w0
    have hg0 : w.grownBy w0 (some rb) := by rw [← hw0]; exact grown_alloc _ _ _
    have hr0 : RdF w0 rb s l a := by rw [← hw0]; exact stay_alloc hr
    have hz0 : w0.heap.size = w.heap.size + 1 := by rw [← hw0]; simp
    have hn0 : w0.heap[w.heap.size]? = some (.cells #[.slice none 0 0, .nilIface] 72) := by rw [← hw0]; exact heap_alloc_new w _
    clear hw0
    refine (take_any rb _ s [98] l 1 _ w0 hr0 hs (by simp)).mono ?_
    rw [H1.out]
    rintro e w1 (⟨r', he, rfl, hr1, hg1⟩ | ⟨he, _⟩)
    case inr => cases he
    cases he
    clear H1
    go_wp2_with fail
    refine (below_any rb _ r1 l 1 8 _ w1 hr1 (by omega)).mono ?_
    rw [H2.out]
    rintro e w2 (⟨n', r', he, rfl, hr2, hg2⟩ | ⟨he, _⟩)
    case inr => cases he
    cases he
    clear H2
    go_wp2_with fail
    refine (take_any rb _ r2 [58] l 1 _ w2 hr2 (by omega) (by simp)).mono ?_
    rw [H3.out]
    rintro e w3 (⟨r', he, rfl, hr3, hg3⟩ | ⟨he, _⟩)
    case inr => cases he
    cases he
    clear H3
    go_wp2_with fail
    refine (lineEnd_any rb r3 l a w3 hr3 (by omega) ⟨hl0, by omega⟩).mono ?_
    rw [H4.out]
    rintro e w4 (⟨r', he, rfl, hr4, hg4⟩ | ⟨he, _⟩)
    case inr => cases he
    cases he
    clear H4
    have hg4' := grown_trans hg1 (grown_trans hg2 (grown_trans hg3 hg4))
    clear hg1 hg2 hg3 hg4 hr1 hr2 hr3
    go_wp2_with fail
    refine (values_ok rb r4 r5 vals (l + 1) a w4 hr4 (by omega) ⟨by omega, by omega⟩ (HT.out.grown (grown_trans hg0 hg4') hrb) hrb H5.out).mono ?_
    rintro e w5 ⟨v, l5, rfl, hrep5, hr5, hl50, hl51, l5', hg5⟩
    clear H5
    have hrep5' : RepVals w5 w.heap.size v vals := hrep5.mono (fun _ _ _ h => own_base h (grown_trans hg0 hg4').size) (fun _ _ _ h => own_base h (grown_trans hg0 hg4').size)
    clear hrep5
    go_wp2_with fail
    refine (last_any rb r5 l5 a w5 hr5 (by omega)).mono ?_
    rw [H6.out]
    rintro e w6 (⟨z', r', he, rfl, hr6, hg6⟩ | ⟨he, _⟩)
    case inr => cases he
    cases he
    clear H6
    have hrep6 := hrep5'.kept hr5 hg6
    clear hrep5'
    go_wp2_with fail
    refine (lineEnd_any rb r6 l5 a w6 hr6 (by omega) ⟨hl50, by omega⟩).mono ?_
    rw [H7.out]
    rintro e w7 (⟨r', he, rfl, hr7, hg7⟩ | ⟨he, _⟩)
    case inr => cases he
    cases he
    clear H7
    have hrep7 := hrep6.kept hr6 hg7
    clear hrep6
    have hgn := grown_trans hg4' (grown_trans hg5 (grown_trans hg6 hg7))
    have hn7 := kept_block hn0 hgn (by omega)
    have hc0 := blk_cell hn7 0 _ rfl
    have hc1 := blk_cell hn7 1 _ rfl
    have hf0 := blk_froz hn7 0
    have hf1 := blk_froz hn7 1
    obtain ⟨cs, hcs, hcs2⟩ := hrep7
    obtain ⟨p, c, rfl⟩ := own_slice hcs
    have HREP : Hid (RepVals w7 w.heap.size (.slice p vals.length c) vals) := hide ⟨cs, hcs, hcs2⟩
    clear hcs hcs2
    obtain ⟨T, pv, hzv⟩ : ∃ T pv, lastV z = .iface T pv := by cases z <;> exact ⟨_, _, rfl⟩
    have HZ := hide hzv
    simp only [hzv]
    clear hzv
    go_wp2
    refine bodyPost_ret (v := .agg #[.slice p vals.length c, .iface T pv]) (by simp [results, Tryd.results31, go_sem, hc0, hc1]) rfl ?_
    have hrn : rb ≠ w.heap.size := by omega
    refine ⟨p, c, l5 + 1, by simp only [HZ.out], ?_, stay_set (stay_set hr7 hrn) hrn, by omega, by omega, by omega, grown_new (grown_new (grown_trans hg0 hgn) (Nat.le_refl _) _ _) (Nat.le_refl _) _ _⟩
    exact HREP.out.mono (fun _ _ _ h => own_set (own_set h hn7 (by decide)) (set_block hn7) (by decide)) (fun _ _ _ h => own_set (own_set h hn7 (by decide)) (set_block hn7) (by decide))
end Go.Proofs.YtdffpkmabehfbaaDoor
