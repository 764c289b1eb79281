/-
  Walk: code.reader.block, of a text that is wrong.
  Walk: code.reader.function, of a text that is wrong.
  Walks: code.Function.fail, failLast.
  Walks: code.Function.requireMadeOnce and requireTargets, where they do not hold.
-/
import Derived.Test.YtedkjanogjglkaaDoorP03
import Derived.Test.YtedkjanogjglkaaDoorP12
import Derived.Test.YtedkjanogjglkaaDoorP07

namespace Go.Proofs.YtedkjanogjglkaaDoor
open Go.RowKit

namespace Code
theorem PhiOf.total : ∀ (n : Nat) (s : List UInt8), s.length ≤ n → ∃ o, PhiOf s o
  | 0, s, h => by
    have hs : s = [] := List.eq_nil_of_length_eq_zero (by omega)
    subst hs
    exact ⟨_, PhiOf.done rfl⟩
  | n + 1, s, h => by
    cases hc : cut [32] s with
    | none => exact ⟨_, PhiOf.done hc⟩
    | some r =>
      cases hv : value r with
      | none => exact ⟨_, PhiOf.bad hc hv⟩
      | some p =>
        have h1 := cut_length hc
        have h2 := (value_some (show value r = some (p.1, p.2) from hv)).2
        simp only [List.length_cons, List.length_nil] at h1
        obtain ⟨o, ho⟩ := PhiOf.total n p.2 (by omega)
        exact ⟨_, PhiOf.more hc (show value r = some (p.1, p.2) from hv) ho⟩

theorem ThingOf.total (a : Nat) (s : List UInt8) : ∃ o, ThingOf a s o := by
  by_cases h1 : word s = sPhi
  · obtain ⟨o, ho⟩ := PhiOf.total _ (behind s) (Nat.le_refl _)
    exact ⟨_, ThingOf.phi h1 ho⟩
  · by_cases h2 : word s = sArg
    · exact ⟨_, ThingOf.arg h2⟩
    · by_cases h3 : word s = sConst
      · exact ⟨_, ThingOf.const h3⟩
      · exact ⟨_, ThingOf.apply h1 h2 h3⟩

theorem PhiOf.length {s t : List UInt8} {l : List Nat} {o : Option (List Nat × List UInt8)} (h : PhiOf s o) (ho : o = some (l, t)) : t.length ≤ s.length := by
  induction h generalizing l with
  | done h1 => cases ho; exact Nat.le_refl _
  | bad h1 h2 => cases ho
  | more h1 h2 h3 ih =>
    rename_i o'
    cases o' with
    | none => cases ho
    | some q =>
      simp only [Option.map_some, Option.some.injEq, Prod.mk.injEq] at ho
      obtain ⟨-, rfl⟩ := ho
      have g1 := cut_length h1
      have g2 := (value_some h2).2
      have := ih (l := q.1) rfl
      simp only [List.length_cons, List.length_nil] at g1
      omega

theorem ThingOf.length {a : Nat} {s t : List UInt8} {y : Thing} (h : ThingOf a s (some (y, t))) : t.length ≤ s.length := by
  have hb : (behind s).length ≤ s.length := rest_length _ _ _
  generalize ho : some (y, t) = o at h
  cases h with
  | phi h1 h2 =>
    rename_i o'
    cases o' with
    | none => cases ho
    | some q =>
      simp only [Option.map_some, Option.some.injEq, Prod.mk.injEq] at ho
      have := h2.length (show some q = some (q.1, q.2) from rfl)
      rw [ho.2]; omega
  | arg h1 =>
    cases hc : cut [32] (behind s) with
    | none => rw [hc] at ho; cases ho
    | some r =>
      rw [hc, Option.bind_some] at ho
      cases hv : below a r with
      | none => rw [hv] at ho; cases ho
      | some p =>
        rw [hv] at ho
        simp only [Option.map_some, Option.some.injEq, Prod.mk.injEq] at ho
        have g1 := cut_length hc
        have g2 := (below_some (show below a r = some (p.1, p.2) from hv)).2
        rw [ho.2]; omega
  | const h1 =>
    cases hc : cut [32] (behind s) with
    | none => rw [hc] at ho; cases ho
    | some r =>
      rw [hc, Option.bind_some] at ho
      cases hv : signed r with
      | none => rw [hv] at ho; cases ho
      | some p =>
        rw [hv] at ho
        simp only [Option.map_some, Option.some.injEq, Prod.mk.injEq] at ho
        have g1 := cut_length hc
        have g2 := (signed_length (show signed r = some (p.1, p.2) from hv)).1
        rw [ho.2]; omega
  | apply h1 h2 h3 =>
    unfold Code.apply at ho
    cases hc : opNamed (word s) with
    | none => rw [hc] at ho; cases ho
    | some k =>
      rw [hc, Option.bind_some] at ho
      cases hv : ofN (opOf k) (behind s) with
      | none => rw [hv] at ho; cases ho
      | some p =>
        rw [hv] at ho
        simp only [Option.map_some, Option.some.injEq, Prod.mk.injEq] at ho
        have g2 := (ofN_length (opOf k) (show ofN (opOf k) (behind s) = some (p.1, p.2) from hv)).2.1
        rw [ho.2]; omega

theorem ValuesOf.total (a : Nat) : ∀ (n : Nat) (b : Bool) (s : List UInt8), s.length ≤ n → ∃ o, ValuesOf a b s o
  | 0, b, s, h => by
    have hs : s = [] := List.eq_nil_of_length_eq_zero (by omega)
    subst hs
    exact ⟨_, ValuesOf.done rfl⟩
  | n + 1, b, s, h => by
    cases hc : cut [118] s with
    | none => exact ⟨_, ValuesOf.done hc⟩
    | some r =>
      cases hv : value s with
      | none => exact ⟨_, ValuesOf.badV hc hv⟩
      | some p =>
        have hv' : value s = some (p.1, p.2) := hv
        have h2 := (value_some hv').2
        cases hq : cut [32, 61, 32] p.2 with
        | none => exact ⟨_, ValuesOf.badEq hc hv' hq⟩
        | some u =>
          have h3 := cut_length hq
          obtain ⟨o, ho⟩ := ThingOf.total a u
          cases o with
          | none => exact ⟨_, ValuesOf.badThing hc hv' hq ho⟩
          | some yx =>
            obtain ⟨y, x⟩ := yx
            have h4 := ho.length
            by_cases hp : y.isPhi = true ∧ b = false
            · obtain ⟨hp, rfl⟩ := hp
              exact ⟨_, ValuesOf.badPhi hc hv' hq ho hp⟩
            · have hp' : y.isPhi = true → b = true := fun h => by
                cases b
                · exact absurd ⟨h, rfl⟩ hp
                · rfl
              cases hz : cut [10] x with
              | none => exact ⟨_, ValuesOf.badEnd hc hv' hq ho hp' hz⟩
              | some z =>
                have h5 := cut_length hz
                simp only [List.length_cons, List.length_nil] at h3 h5
                obtain ⟨o, hm⟩ := ValuesOf.total a n y.isPhi z (by omega)
                exact ⟨_, ValuesOf.more hc hv' hq ho hp' hz hm⟩
end Code

set_option maxRecDepth 100000 in
set_option maxHeartbeats 4000000 in
theorem block_no (rb : Nat) (s : List UInt8) (num : Nat) (l : Int) (a : Nat) (w : World) (hr : RdF w rb s l a) (hs : s.length ≤ 3000) (hl : 0 ≤ l ∧ l + s.length ≤ 100000) (ht : Tab w) (hrb : 0 < rb) (hb : ∀ blk t, ¬ Code.BlockIs a num s blk t) :
    Calls Tryd.prog 67 #[.pointer (some ⟨rb, 0, none⟩), .int .i64 (num : Nat)] w fun e w' => Fails w rb 1 e w' := by
  obtain ⟨hl0, hl1⟩ := hl
  have HT := hide ht
  have HB := hide hb
  clear ht hb
  have hrlt := hr.lt
  go_enter Tryd.func67, Tryd.ntmps67
  go_wp2_with fail
  generalize hw0 : w.alloc _ = w0
  have hg0 : w.grownBy w0 (some rb) := by rw [← hw0]; exact grown_alloc _ _ _
  have hr0 : RdF w0 rb s l a := by rw [← hw0]; exact stay_alloc hr
  clear hw0
  refine (take_any rb _ s [98] l 1 _ w0 hr0 hs (by simp)).mono ?_
  rintro e w1 (⟨r1, he, rfl, hr1, hg1⟩ | ⟨he, ⟨lx, rfl⟩, hg1⟩)
  case inr =>
    go_wp2
    exact ⟨rfl, ⟨lx, rfl⟩, grown_trans hg0 hg1⟩
  have HB1 := hide fun (r2 : List UInt8) (h2 : Code.below 8 r1 = some (num, r2)) (r3 : List UInt8) (h3 : Code.cut [58] r2 = some r3) (r4 : List UInt8) (h4 : Code.cut [10] r3 = some r4) vals r5 (h5 : Code.ValuesOf a true r4 (some (vals, r5))) z r6 (h6 : Code.last r5 = some (z, r6)) r7 (h7 : Code.cut [10] r6 = some r7) => HB.out _ _ (Code.BlockIs.mk he h2 h3 h4 h5 h6 h7)
  have l1 := Code.cut_length he
  simp only [List.length_cons, List.length_nil] at l1
  have hgr1 := grown_trans hg0 hg1
  clear HB he hg0 hg1
  go_wp2_with fail
  refine (below_any rb _ r1 l 1 8 _ w1 hr1 (by omega)).mono ?_
  rintro e w2 (⟨n, r2, he, rfl, hr2, hg2⟩ | ⟨he, ⟨lx, rfl⟩, hg2⟩)
  case inr =>
    go_wp2
    exact ⟨rfl, ⟨lx, rfl⟩, grown_trans hgr1 hg2⟩
  have l2 := (Code.below_some he).2
  have hgr2 := grown_trans hgr1 hg2
  by_cases hn : n = num
  case neg =>
    have hn' : (n : Int) ≠ (num : Int) := by omega
    have hn2 : ((n : Int) == (num : Int)) = false := by simp; omega
    clear HB1 he
    go_wp2_with fail
    refine (fail_any rb _ r2 l 1 _ w2 hr2).mono ?_
    rintro e w3 ⟨⟨lx, rfl⟩, hg3⟩
    go_wp2
    exact ⟨rfl, ⟨lx, rfl⟩, grown_trans hgr2 hg3⟩
  subst hn
  have HB2 := hide (HB1.out r2 he)
  clear HB1 he hgr1 hg2
  go_wp2_with fail
  refine (take_any rb _ r2 [58] l 1 _ w2 hr2 (by omega) (by simp)).mono ?_
  rintro e w3 (⟨r3, he, rfl, hr3, hg3⟩ | ⟨he, ⟨lx, rfl⟩, hg3⟩)
  case inr =>
    go_wp2
    exact ⟨rfl, ⟨lx, rfl⟩, grown_trans hgr2 hg3⟩
  have l3 := Code.cut_length he
  have HB3 := hide (HB2.out r3 he)
  have hgr3 := grown_trans hgr2 hg3
  clear HB2 he hgr2 hg3
  go_wp2_with fail
  refine (lineEnd_any rb r3 l a w3 hr3 (by omega) ⟨hl0, by omega⟩).mono ?_
  rintro e w4 (⟨r4, he, rfl, hr4, hg4⟩ | ⟨he, ⟨lx, rfl⟩, hg4⟩)
  case inr =>
    go_wp2
    exact ⟨rfl, ⟨lx, rfl⟩, grown_trans hgr3 hg4⟩
  have l4 := Code.cut_length he
  have HB4 := hide (HB3.out r4 he)
  have hgr4 := grown_trans hgr3 hg4
  simp only [List.length_cons, List.length_nil] at l3 l4
  clear HB3 he hgr3 hg4
  obtain ⟨o, ho⟩ := Code.ValuesOf.total a _ true r4 (Nat.le_refl _)
  have HO := hide ho
  clear ho
  go_wp2_with fail
  cases o with
  | none =>
    refine (values_no rb r4 (l + 1) a w4 hr4 (by omega) ⟨by omega, by omega⟩ (HT.out.grown hgr4 hrb) hrb HO.out).mono ?_
    rintro e w5 ⟨⟨lx, rfl⟩, hg5⟩
    go_wp2
    exact ⟨rfl, ⟨lx, rfl⟩, grown_trans hgr4 hg5⟩
  | some q =>
    obtain ⟨vals, r5⟩ := q
    have HB5 := hide (HB4.out vals r5 HO.out)
    refine (values_ok rb r4 r5 vals (l + 1) a w4 hr4 (by omega) ⟨by omega, by omega⟩ (HT.out.grown hgr4 hrb) hrb HO.out).mono ?_
    rintro e w5 ⟨v, l5, rfl, hrep5, hr5, hl50, hl51, l5', hg5⟩
    have hgr5 := grown_trans hgr4 hg5
    clear HO HB4 hgr4 hg5
    obtain ⟨cs, hcs, hcs2⟩ := hrep5
    obtain ⟨p, c, rfl⟩ := own_slice hcs
    clear hcs hcs2
    go_wp2_with fail
    refine (last_any rb r5 l5 a w5 hr5 (by omega)).mono ?_
    rintro e w6 (⟨z, r6, he, rfl, hr6, hg6⟩ | ⟨he, ⟨lx, rfl⟩, hg6⟩)
    case inr =>
      go_wp2
      exact ⟨rfl, ⟨lx, rfl⟩, grown_trans hgr5 hg6⟩
    have l6 := Code.last_length he
    have HB6 := hide (HB5.out z r6 he)
    have hgr6 := grown_trans hgr5 hg6
    obtain ⟨T, pv, hzv⟩ : ∃ T pv, lastV z = .iface T pv := by cases z <;> exact ⟨_, _, rfl⟩
    simp only [hzv]
    clear hzv HB5 he hgr5 hg6
    go_wp2_with fail
    refine (lineEnd_any rb r6 l5 a w6 hr6 (by omega) ⟨hl50, by omega⟩).mono ?_
    rintro e w7 (⟨r7, he, rfl, hr7, hg7⟩ | ⟨he, ⟨lx, rfl⟩, hg7⟩)
    · exact absurd he (HB6.out r7)
    · go_wp2
      exact ⟨rfl, ⟨lx, rfl⟩, grown_trans hgr6 hg7⟩
end Go.Proofs.YtedkjanogjglkaaDoor


namespace Go.Proofs.YtedkjanogjglkaaDoor
open Go.RowKit

/-- A row of blocks, whatever they are. -/
def SomeBlks (w : World) (base : Nat) (v : Value) (n : Nat) : Prop := ∃ cs, w.ownsRow base 89 2 v n cs

theorem SomeBlks.kept {w w' : World} {base rb n : Nat} {v : Value} (h : SomeBlks w base v n) {C : Array Value} {z : Nat × Nat} (hb : w.heap[rb]? = some (.cells C 119 z)) (hg : w.grownBy w' (some rb)) : SomeBlks w' base v n := by
  obtain ⟨cs, h⟩ := h
  exact ⟨cs, own_kept hb hg h (by decide)⟩

set_option maxRecDepth 100000 in
set_option maxHeartbeats 4000000 in
theorem function_no (rb : Nat) (s : List UInt8) (l : Int) (a : Nat) (w : World) (hr : RdF w rb s l a) (hs : s.length ≤ 3000) (hl : 0 ≤ l ∧ l + s.length ≤ 100000) (ht : Tab w) (hrb : 0 < rb) (hf : ∀ f, ¬ Code.FnIs s f) :
    Calls Tryd.prog 53 #[.pointer (some ⟨rb, 0, none⟩)] w fun e w' => Fails w rb 1 e w' := by
  obtain ⟨hl0, hl1⟩ := hl
  obtain ⟨i0, hi, hz0', hz1, hz2⟩ := info_parts infoBlk
  have HT := hide ht
  have HB := hide hf
  clear ht hf
  have hrlt := hr.lt
  go_enter Tryd.func53, Tryd.ntmps53
  go_wp2_with fail
  generalize hw0 : w.alloc _ = w0
  have hg0 : w.grownBy w0 (some rb) := by rw [← hw0]; exact grown_alloc _ _ _
  have hr0 : RdF w0 rb s l a := by rw [← hw0]; exact stay_alloc hr
  clear hw0
  refine (take_any rb _ s [102, 117, 110, 99, 32] l 1 _ w0 hr0 hs (by simp)).mono ?_
  rintro e w1 (⟨r1, he, rfl, hr1, hg1⟩ | ⟨he, ⟨lx, rfl⟩, hg1⟩)
  case inr =>
    go_wp2
    exact ⟨rfl, ⟨lx, rfl⟩, grown_trans hg0 hg1⟩
  have HB1 := hide fun (args : Nat) (r2 : List UInt8) (h2 : Code.below 5 r1 = some (args, r2)) (r3 : List UInt8) (h3 : Code.cut [10] r2 = some r3) b r4 (h4 : Code.BlockIs args 0 r3 b r4) bks (h5 : Code.BlocksIs args 1 r4 bks) => HB.out _ (Code.FnIs.mk he h2 h3 h4 h5)
  have l1 := Code.cut_length he
  simp only [List.length_cons, List.length_nil] at l1
  have hgr1 := grown_trans hg0 hg1
  clear HB he hg0 hg1
  go_wp2_with fail
  refine (below_any rb _ r1 l 1 5 _ w1 hr1 (by omega)).mono ?_
  rintro e w2 (⟨args, r2, he, rfl, hr2, hg2⟩ | ⟨he, ⟨lx, rfl⟩, hg2⟩)
  case inr =>
    go_wp2
    exact ⟨rfl, ⟨lx, rfl⟩, grown_trans hgr1 hg2⟩
  have l2 := (Code.below_some he).2
  have HB2 := hide (HB1.out args r2 he)
  have hgr2 := grown_trans hgr1 hg2
  have c3 := hr2.c3
  have f3 := hr2.fz 3
  clear HB1 he hgr1 hg2
  go_wp2_with fail
  generalize hw3 : w2.setCell _ _ = w3
  have hr3 : RdF w3 rb r2 l args := by rw [← hw3]; exact hr2.set3 _
  have hgr3 : w.grownBy w3 (some rb) := grown_trans hgr2 (by rw [← hw3]; exact grown_set _ _ _ _)
  clear hw3 hgr2 hr1 hr2 c3 f3
  refine (lineEnd_any rb r2 l args w3 hr3 (by omega) ⟨hl0, by omega⟩).mono ?_
  rintro e w4 (⟨r3, he, rfl, hr4, hg4⟩ | ⟨he, ⟨lx, rfl⟩, hg4⟩)
  case inr =>
    go_wp2
    exact ⟨rfl, ⟨lx, rfl⟩, grown_trans hgr3 hg4⟩
  have l3 := Code.cut_length he
  simp only [List.length_cons, List.length_nil] at l3
  have HB3 := hide (HB2.out r3 he)
  have hgr4 := grown_trans hgr3 hg4
  clear HB2 he hgr3 hg4 hr3 hr0
  go_wp2_with fail
  by_cases hex : ∃ b r4, Code.BlockIs args 0 r3 b r4
  case neg =>
    have HNO := hide fun b t h => hex ⟨b, t, h⟩
    refine (block_no rb r3 0 (l + 1) args w4 hr4 (by omega) ⟨by omega, by omega⟩ (HT.out.grown hgr4 hrb) hrb HNO.out).mono ?_
    rintro e w5 ⟨⟨lx, rfl⟩, hg5⟩
    go_wp2
    exact ⟨rfl, ⟨lx, rfl⟩, grown_trans hgr4 hg5⟩
  obtain ⟨b, r4, hb4⟩ := hex
  have HB4 := hide (HB3.out b r4 hb4)
  refine (block_ok rb r3 r4 0 b (l + 1) args w4 hr4 (by omega) ⟨by omega, by omega⟩ (HT.out.grown hgr4 hrb) hrb hb4).mono ?_
  rintro e w5 ⟨p, c, l5, rfl, hrep5, hr5, hl50, hl51, l5', hg5⟩
  have hgr5 := grown_trans hgr4 hg5
  clear HB3 hb4 hrep5 hg5 hr4 hgr4
  obtain ⟨T, pv, hzv⟩ : ∃ T pv, lastV b.last = .iface T pv := by cases b.last <;> exact ⟨_, _, rfl⟩
  simp only [hzv]
  clear hzv
  go_wp2_with fail
  have hsz5 := hgr5.size
  have hrep6 : SomeBlks (w5.alloc (.cells #[.slice p b.values.length c, .iface T pv] 89)) w.heap.size (.slice (some ⟨w5.heap.size, 0, none⟩) 1 1) 1 := ⟨_, own_new2 w5 _ _ hsz5⟩
  generalize hw6 : w5.alloc _ = w6 at *
  have hr6 : RdF w6 rb r4 l5 args := by rw [← hw6]; exact stay_alloc hr5
  have hgw6 : w.grownBy w6 (some rb) := grown_trans hgr5 (by rw [← hw6]; exact grown_alloc _ _ _)
  clear hw6 hr5 hgr5
  go_loopw [3] (fun v wr => ∃ (k : Nat) (s' : List UInt8) (l' : Int), SomeBlks wr w.heap.size v k ∧ RdF wr rb s' l' args ∧ 0 ≤ l' ∧ l' + s'.length ≤ 100000 ∧ w.grownBy wr (some rb) ∧
      k + s'.length ≤ s.length ∧ Hid (∀ bks, ¬ Code.BlocksIs args k s' bks))
    (fun _ wr => restLen wr rb)
  case atStart => exact ⟨1, r4, l5, hrep6, hr6, hl50, hl51, hgw6, by omega, HB4⟩
  case round =>
    obtain ⟨k, s', l', hrep, hrd, hl0', hl1', hgr, hdl, hsp⟩ := hrel
    clear hrep6 hr6 hgw6 HB4
    have hm0 := hide (restLen_of hrd)
    have c0 := hrd.c0
    have c3 := hrd.c3
    obtain ⟨cs, hcs⟩ := hrep
    obtain ⟨p, c, rfl⟩ := own_slice hcs
    have HREP : Hid (SomeBlks wr w.heap.size (.slice p k c) k) := hide ⟨cs, hcs⟩
    clear hcs
    by_cases he : s' = []
    · subst he
      exact absurd Code.BlocksIs.nil (hsp.out [])
    have q1 : ((bs s').toList == []) = false := toList_no (by rw [bl_bs]; exact he)
    have HE := hide he
    clear he
    go_wp2_with fail
    by_cases hex : ∃ b r4, Code.BlockIs args k s' b r4
    case neg =>
      have HNO := hide fun b t h => hex ⟨b, t, h⟩
      refine (block_no rb s' k l' args wr hrd (by omega) ⟨by omega, by omega⟩ (HT.out.grown hgr hrb) hrb HNO.out).mono ?_
      rintro e w5 ⟨⟨lx, rfl⟩, hg5⟩
      go_wp2
      exact ⟨rfl, ⟨lx, rfl⟩, grown_trans hgr hg5⟩
    obtain ⟨b', r, hb'⟩ := hex
    have HN : Hid (∀ bks, ¬ Code.BlocksIs args (k + 1) r bks) := hide fun bks h => hsp.out _ (Code.BlocksIs.cons HE.out hb' h)
    refine (block_ok rb s' r k b' l' args wr hrd (by omega) ⟨by omega, by omega⟩ (HT.out.grown hgr hrb) hrb hb').mono ?_
    rintro e w5 ⟨p5, c5, l5, rfl, hrep5, hr5, hl50, hl51, l5', hg5⟩
    have hgw5 := grown_trans hgr hg5
    obtain ⟨cs, hcs1⟩ := HREP.out.kept hrd hg5
    clear hrep5 hg5 HREP hb' hsp
    obtain ⟨T, pv, hzv⟩ : ∃ T pv, lastV b'.last = .iface T pv := by cases b'.last <;> exact ⟨_, _, rfl⟩
    simp only [hzv]
    clear hzv
    have hz := hgw5.size
    go_wp2_with (first | (at_builtin; refine wpList_append_own _ rfl _ _ 45 rfl w.heap.size 89 i0 (.agg #[.slice none 0 0, .nilIface]) 2 40 Tryd.underlying45 hi hz0' hz1 hz2 rfl (by decide) _ _ _ rfl (hcs1.alloc _) ⟨_, 0, none⟩ 1 1 [.slice p5 b'.values.length c5, .iface T pv] rfl rfl (cell_two_new _ _ _ _) (fun x hx => by simp at hx; rcases hx with rfl | rfl <;> rfl) (by unfold maxLen; omega) (by omega) (by simp; omega) ?_; intro v' w6 hown' hgrow6 hnil6))
    have hr6 : RdF w6 rb r l5 args := stay_grown (hcs1.alloc _) hgrow6 (stay_alloc hr5) (by decide)
    refine ⟨⟨k + 1, r, l5, ⟨_, hown'⟩, hr6, hl50, hl51, grown_app hgw5 hgrow6 (fun q hq => (hcs1.lt q hq).1), by omega, HN⟩, ?_⟩
    rw [hm0.out, restLen_of hr6]; omega
end Go.Proofs.YtedkjanogjglkaaDoor


namespace Go.Proofs.YtedkjanogjglkaaDoor
open Go.RowKit

/-- It gave up: the function is not right; where: some line. -/
def FailsB (w : World) (e : Ending) (w' : World) : Prop :=
  (∃ l : Int, e = .panicked [{ v := .iface 82 (.agg #[.int .i64 2, .int .i64 l]), recovered := false }]) ∧ Below w.heap.size w w'

theorem own_cap {w : World} {base e size n c : Nat} {p : Option Addr} {xs : List Value} (h : w.ownsRow base e size (.slice p n c) n xs) : n ≤ c := by
  rcases h.2 with ⟨h1, h2⟩ | ⟨g, cap, cur, hv, _, _, hc, _⟩
  · omega
  · simp only [Value.slice.injEq] at hv
    omega

set_option maxRecDepth 100000 in
set_option maxHeartbeats 4000000 in
theorem fail_form (args : Nat) (bks : List Code.Blk) (p : Option Addr) (c : Nat) (base : Nat) (w : World) (hf : RepBlks w base (.slice p bks.length c) bks) (hn : bks.length ≤ 8) (hl : ∀ b ∈ bks, b.values.length ≤ 100000) (blk : Nat) (hblk : blk < bks.length) (idx : Int) (hidx : -1 ≤ idx ∧ idx ≤ 1000000) :
    Calls Tryd.prog 80 #[.agg #[.int .i64 (args : Nat), .slice p bks.length c], .int .i64 (blk : Nat), .int .i64 idx] w fun e w' => FailsB w e w' := by
  have hcap : bks.length ≤ c := by
    obtain ⟨cs, h, _⟩ := hf
    exact own_cap h
  obtain ⟨p', c', hpe, hblks⟩ := hf.open
  simp only [Value.slice.injEq] at hpe
  obtain ⟨rfl, _, rfl⟩ := hpe
  obtain ⟨g0, vs0, rfl, hg0, _⟩ := hblks blk hblk
  have HBLK := hide hblks
  have HL := hide hl
  clear hblks hf hl
  go_enter Tryd.func80, Tryd.ntmps80
  go_wp2_with fail
  generalize hw0 : w.alloc _ = w0
  have hb0 : Below w.heap.size w w0 := by rw [← hw0]; exact below_al (Below.refl _ _) _
  clear hw0
  go_loopw [6, 16] (fun a i wr => ∃ (j : Nat) (L : Int), j ≤ blk ∧ i = .int .i64 j ∧ a = .int .i64 L ∧ -1000 ≤ L ∧ L ≤ 2000000 + 200000 * (j : Int) ∧ Below w.heap.size w wr) (fun _ i _ => blk - (intOf i).toNat)
  case atStart => exact ⟨0, 3 + idx, by omega, rfl, rfl, by omega, by omega, hb0⟩
  case round =>
    obtain ⟨j, L, hj, rfl, rfl, hL0, hL1, hbw⟩ := hrel
    clear hb0
    by_cases hlt : j < blk
    · obtain ⟨g, vs, hge, hg, c0, c1, hvs⟩ := HBLK.out j (by omega)
      have hlen := HL.out (bks[j]'(by omega)) (List.getElem_mem _)
      obtain ⟨pv, cv, rfl, hval⟩ := hvs.open
      cases hge
      clear hval
      have c0' := ((bcell hbw).1 g0 _ hg).trans c0
      have c1' := ((bcell hbw).1 g0 _ hg).trans c1
      obtain ⟨T, zv, hzv⟩ := lastV_shape (bks[j]'(by omega)).last
      rw [hzv] at c1'
      clear c0 c1 hvs hzv
      generalize (bks[j]'(by omega)).values.length = vl at *
      go_wp2
      exact ⟨⟨j + 1, L + ((vl : Int) + 2), by omega, by go_num, rfl, by omega, by omega, below_al hbw _⟩, by simp [intOf]; omega⟩
    · go_wp2
      exact ⟨rfl, ⟨L, rfl⟩, hbw⟩

set_option maxRecDepth 100000 in
set_option maxHeartbeats 4000000 in
theorem failLast_form (args : Nat) (bks : List Code.Blk) (p : Option Addr) (c : Nat) (base : Nat) (w : World) (hf : RepBlks w base (.slice p bks.length c) bks) (hn : bks.length ≤ 8) (hl : ∀ b ∈ bks, b.values.length ≤ 100000) (blk : Nat) (hblk : blk < bks.length) :
    Calls Tryd.prog 81 #[.agg #[.int .i64 (args : Nat), .slice p bks.length c], .int .i64 (blk : Nat)] w fun e w' => FailsB w e w' := by
  have HF := hide hf
  have HL := hide hl
  have hlen := hl bks[blk] (List.getElem_mem _)
  obtain ⟨p', c', hpe, hblks⟩ := hf.open
  simp only [Value.slice.injEq] at hpe
  obtain ⟨rfl, _, rfl⟩ := hpe
  obtain ⟨g, vs, rfl, hg, c0, c1, hvs⟩ := hblks blk hblk
  obtain ⟨pv, cv, rfl, hval⟩ := hvs.open
  obtain ⟨T, zv, hzv⟩ := lastV_shape bks[blk].last
  rw [hzv] at c1
  clear hblks hf hl hval hvs hzv
  generalize bks[blk].values.length = vl at *
  have hcap : bks.length ≤ c := by
    obtain ⟨cs, h, _⟩ := HF.out
    exact own_cap h
  go_enter Tryd.func81, Tryd.ntmps81
  go_wp2_with fail
  generalize hw0 : w.alloc _ = w0
  have hx0 : w0.heap[w.heap.size]? = some (.cells #[.int .i64 (args : Nat), .slice (some ⟨g, 0, none⟩) bks.length c] 47) := by rw [← hw0]; exact heap_alloc_new w _
  have hb0 : Below w.heap.size w w0 := by rw [← hw0]; exact below_al (Below.refl _ _) _
  clear hw0
  have hS : w0.drew.cell? ⟨w.heap.size, 0, none⟩ = some (.int .i64 (args : Nat)) ∧ w0.drew.cell? ⟨w.heap.size, 1, none⟩ = some (.slice (some ⟨g, 0, none⟩) bks.length c) ∧ w0.drew.cell? ⟨g, blk * 2, none⟩ = some (.slice pv vl cv) := ⟨blk_cell hx0 0 _ rfl, blk_cell hx0 1 _ rfl, ((bcell hb0).1 g _ hg).trans c0⟩
  refine wp_region_held_drew (S := fun w' => w'.cell? ⟨w.heap.size, 0, none⟩ = some (.int .i64 (args : Nat)) ∧ w'.cell? ⟨w.heap.size, 1, none⟩ = some (.slice (some ⟨g, 0, none⟩) bks.length c) ∧ w'.cell? ⟨g, blk * 2, none⟩ = some (.slice pv vl cv)) (by kernel_rfl) hS (fun hHeld => ?_)
  refine wpAnyH_take (i := 0) (v := .agg #[.int .i64 (args : Nat), .slice (some ⟨g, 0, none⟩) bks.length c]) rfl (by kernel_rfl) (by kernel_rfl) (by kernel_rfl) (fun _ _ _ h => h) (Or.inl ⟨by rfl, fun w' h => by obtain ⟨h1, h2, h3⟩ := h; go_simp⟩) hS ?_
  try simp only [Act.put, List.getElem_toArray, List.getElem_cons_zero, List.setIfInBounds_toArray, List.set_cons_zero, List.set_cons_succ]
  refine wpAnyH_take (i := 1) (v := .int .i64 (blk : Nat)) rfl (by kernel_rfl) (by kernel_rfl) (by kernel_rfl) (fun _ _ _ h => h) (Or.inl ⟨by rfl, fun w' h => by  go_simp⟩) hS ?_
  try simp only [Act.put, List.getElem_toArray, List.getElem_cons_zero, List.getElem_cons_succ, List.setIfInBounds_toArray, List.set_cons_zero, List.set_cons_succ]
  refine wpAnyH_take (i := 2) (v := .pointer (some ⟨w.heap.size, 1, none⟩)) rfl (by kernel_rfl) (by kernel_rfl) (by kernel_rfl) (fun _ _ _ h => h) (Or.inl ⟨by rfl, fun w' h => by  go_simp⟩) hS ?_
  try simp only [Act.put, List.getElem_toArray, List.getElem_cons_zero, List.getElem_cons_succ, List.setIfInBounds_toArray, List.set_cons_zero, List.set_cons_succ]
  refine wpAnyH_take (i := 3) (v := .slice (some ⟨g, 0, none⟩) bks.length c) rfl (by kernel_rfl) (by kernel_rfl) (by kernel_rfl) (fun _ _ _ h => h) (Or.inl ⟨by rfl, fun w' h => by obtain ⟨h1, h2, h3⟩ := h; go_simp⟩) hS ?_
  try simp only [Act.put, List.getElem_toArray, List.getElem_cons_zero, List.getElem_cons_succ, List.setIfInBounds_toArray, List.set_cons_zero, List.set_cons_succ]
  refine wpAnyH_take (i := 4) (v := .int .i64 (blk : Nat)) rfl (by kernel_rfl) (by kernel_rfl) (by kernel_rfl) (fun _ _ _ h => h) (Or.inl ⟨by rfl, fun w' h => by  go_simp⟩) hS ?_
  try simp only [Act.put, List.getElem_toArray, List.getElem_cons_zero, List.getElem_cons_succ, List.setIfInBounds_toArray, List.set_cons_zero, List.set_cons_succ]
  refine wpAnyH_take (i := 5) (v := .pointer (some ⟨g, blk * 2, none⟩)) rfl (by kernel_rfl) (by kernel_rfl) (by kernel_rfl) (fun _ _ _ h => h) (Or.inl ⟨by rfl, fun w' h => by  go_simp⟩) hS ?_
  try simp only [Act.put, List.getElem_toArray, List.getElem_cons_zero, List.getElem_cons_succ, List.setIfInBounds_toArray, List.set_cons_zero, List.set_cons_succ]
  refine wpAnyH_take (i := 6) (v := .pointer (some ⟨g, blk * 2, none⟩)) rfl (by kernel_rfl) (by kernel_rfl) (by kernel_rfl) (fun _ _ _ h => h) (Or.inl ⟨by rfl, fun w' h => by  go_simp⟩) hS ?_
  try simp only [Act.put, List.getElem_toArray, List.getElem_cons_zero, List.getElem_cons_succ, List.setIfInBounds_toArray, List.set_cons_zero, List.set_cons_succ]
  refine wpAnyH_take (i := 7) (v := .slice pv vl cv) rfl (by kernel_rfl) (by kernel_rfl) (by kernel_rfl) (fun _ _ _ h => h) (Or.inl ⟨by rfl, fun w' h => by obtain ⟨h1, h2, h3⟩ := h; go_simp⟩) hS ?_
  try simp only [Act.put, List.getElem_toArray, List.getElem_cons_zero, List.getElem_cons_succ, List.setIfInBounds_toArray, List.set_cons_zero, List.set_cons_succ]
  refine wpAnyH_take (i := 8) (v := .int .i64 (vl : Nat)) rfl (by kernel_rfl) (by kernel_rfl) (by kernel_rfl) (fun _ _ _ h => h) (Or.inl ⟨by rfl, fun w' h => by  go_simp⟩) hS ?_
  try simp only [Act.put, List.getElem_toArray, List.getElem_cons_zero, List.getElem_cons_succ, List.setIfInBounds_toArray, List.set_cons_zero, List.set_cons_succ]
  refine wpAnyH_ready (rs := [9]) (by kernel_rfl) (by simp) ?_
  refine AllReadyH.cons rfl (fun K hK => ?_) AllReadyH.nil
  rw [if_pos (by rfl)]
  go_wp2_with fail
  refine (fail_form args bks (some ⟨g, 0, none⟩) c base w0.drew (HF.out.below (Below.drew hb0)) hn HL.out blk hblk vl ⟨by omega, by omega⟩).mono ?_
  rintro e w1 ⟨⟨l, rfl⟩, hb1⟩
  go_wp2
  exact ⟨rfl, ⟨l, rfl⟩, hb0.trans ((undrewB hb1).mono hb0.size)⟩
end Go.Proofs.YtedkjanogjglkaaDoor


namespace Go.Proofs.YtedkjanogjglkaaDoor
open Go.RowKit

namespace Code
theorem Fresh.cons {R : List Bool} {v : Val} {l : List Val} (hv : R.getD v.num false = false) (hlt : v.num < R.length) (h : Fresh (R.set v.num true) l) : Fresh R (v :: l) := by
  obtain ⟨h1, h2⟩ := h
  have hne : ∀ x ∈ nums l, x ≠ v.num := by
    rintro x hx rfl
    have := h2 _ hx
    rw [List.getD_eq_getElem?_getD, List.getElem?_set_self hlt] at this
    cases this
  refine ⟨?_, fun x hx => ?_⟩
  · simp only [nums, List.map_cons, List.nodup_cons]
    exact ⟨fun h => hne _ h rfl, h1⟩
  · simp only [nums, List.map_cons] at hx
    rcases List.mem_cons.1 hx with rfl | hx
    · exact hv
    · have := h2 x hx
      rw [set_getD R v.num x (hne x hx)] at this
      exact this
end Code

theorem bcell' {B : Nat} {W w1 : World} (hb : Below B W w1) (b o : Nat) (h : b < B) (v : Value) (hc : W.cell? ⟨b, o, none⟩ = some v) : w1.cell? ⟨b, o, none⟩ = some v := ((bcell hb).1 b o h).trans hc

set_option maxRecDepth 100000 in
set_option maxHeartbeats 4000000 in
theorem madeOnce_no (args : Nat) (bks : List Code.Blk) (p : Option Addr) (c : Nat) (base : Nat) (w : World) (hf : RepBlks w base (.slice p bks.length c) bks) (hn : bks.length ≤ 8) (hl : ∀ b ∈ bks, b.values.length ≤ 100000 ∧ ∀ v ∈ b.values, v.num < 60) (ho : ¬ Code.Once noNumber bks) :
    Calls Tryd.prog 68 #[.agg #[.int .i64 (args : Nat), .slice p bks.length c]] w fun e w' => FailsB w e w' := by
  have HF := hide hf
  obtain ⟨p', c', hpe, hblk⟩ := hf.open
  simp only [Value.slice.injEq] at hpe
  obtain ⟨rfl, _, rfl⟩ := hpe
  have HBLK := hide hblk
  have HL := hide hl
  have HO := hide ho
  clear hblk hf hl ho
  go_enter Tryd.func68, Tryd.ntmps68
  go_wp2
  generalize hw0 : (w.alloc _).alloc _ = w0
  have hr0 : setRow w0 (w.heap.size + 1) noNumber := by
    have h := heap_alloc_new (w.alloc (.cells #[.int .i64 (args : Nat), .slice p bks.length c] 47)) (.cells (setA noNumber) 159)
    rw [alloc_size] at h
    rw [← hw0]; exact h
  have hx0 : w0.heap[w.heap.size]? = some (.cells #[.int .i64 (args : Nat), .slice p bks.length c] 47) := by rw [← hw0]; exact stay_alloc (heap_alloc_new w _)
  have hb0 : Below w.heap.size w w0 := by rw [← hw0]; exact below_al (below_al (Below.refl _ _) _) _
  clear hw0
  go_loopw [10] (fun i wr => ∃ (j : Nat) (R : List Bool), j ≤ bks.length ∧ i = .int .i64 j ∧ R.length = 60 ∧ setRow wr (w.heap.size + 1) R ∧ wr.heap[w.heap.size]? = some (.cells #[.int .i64 (args : Nat), .slice p bks.length c] 47) ∧ Below w.heap.size w wr ∧ Hid (¬ Code.Once R (bks.drop j))) (fun i _ => bks.length - (intOf i).toNat)
  case atStart => exact ⟨0, noNumber, by omega, rfl, rfl, hr0, hx0, hb0, HO⟩
  case round =>
    obtain ⟨j, R, hj, rfl, hR, hrow, hxr, hbw, hsp⟩ := hrel
    clear hr0 hb0 HO hx0
    have hz := hbw.size
    by_cases hlt : j < bks.length
    · obtain ⟨g, vs, rfl, hg, c0, c1, hvs⟩ := HBLK.out j hlt
      obtain ⟨hlen, hnum⟩ := HL.out bks[j] (List.getElem_mem hlt)
      have hO : ¬ (Code.Fresh R bks[j].values ∧ Code.Once (Code.addAll R bks[j].values) (bks.drop (j + 1))) := by
        have h := hsp.out
        rw [List.drop_eq_getElem_cons hlt] at h
        exact h
      obtain ⟨pv, cv, rfl, hval⟩ := hvs.open
      have c0' : wr.cell? ⟨g, j * 2, none⟩ = some (.slice pv bks[j].values.length cv) := by rw [(bcell hbw).1 g _ hg]; exact c0
      obtain ⟨T, zv, hzv⟩ := lastV_shape bks[j].last
      have c1' : wr.cell? ⟨g, j * 2 + 1, none⟩ = some (.iface T zv) := by rw [(bcell hbw).1 g _ hg, ← hzv]; exact c1
      generalize bks[j].values = vals at *
      have HV := hide hval
      have HON := hide hO
      have HNUM := hide hnum
      clear hval c0 c1 hvs hzv hsp hO hnum
      go_wp2_with fail
      generalize hw3 : wr.alloc _ = w3
      have hb3 : Below w.heap.size w w3 := by rw [← hw3]; exact below_al hbw _
      have hrow3 : setRow w3 (w.heap.size + 1) R := by rw [← hw3]; exact stay_alloc hrow
      have hx3 : w3.heap[w.heap.size]? = some (.cells #[.int .i64 (args : Nat), .slice (some ⟨g, 0, none⟩) bks.length c] 47) := by rw [← hw3]; exact stay_alloc hxr
      clear hw3 c0' c1' hxr
      rename World => wo
      go_loopw [18] (fun i ws => ∃ (k : Nat) (S : List Bool), k ≤ vals.length ∧ i = .int .i64 k ∧ S.length = 60 ∧ setRow ws (w.heap.size + 1) S ∧ ws.heap[w.heap.size]? = some (.cells #[.int .i64 (args : Nat), .slice (some ⟨g, 0, none⟩) bks.length c] 47) ∧ Below w.heap.size w ws ∧ Hid (¬ (Code.Fresh S (vals.drop k) ∧ Code.Once (Code.addAll S (vals.drop k)) (bks.drop (j + 1))))) (fun i _ => vals.length - (intOf i).toNat)
      case atStart => exact ⟨0, R, by omega, rfl, hR, hrow3, hx3, hb3, HON⟩
      case round =>
        obtain ⟨k, S, hk, rfl, hS, hrw, hxs, hbs, hsp⟩ := hrel
        clear hrow3 hb3 hrow HON hx3
        have hzs := hbs.size
        by_cases hkt : k < vals.length
        · obtain ⟨g2, th, rfl, hg2, d0, d1, hth⟩ := HV.out k hkt
          obtain ⟨T', tv, rfl⟩ := hth.shape
          have d0' : wr.cell? ⟨g2, k * 2, none⟩ = some (.int .i64 (vals[k].num : Nat)) := by rw [(bcell hbs).1 g2 _ hg2]; exact d0
          have d1' : wr.cell? ⟨g2, k * 2 + 1, none⟩ = some (.iface T' tv) := by rw [(bcell hbs).1 g2 _ hg2]; exact d1
          have hx60 := HNUM.out vals[k] (List.getElem_mem hkt)
          have hF := hsp.out
          rw [List.drop_eq_getElem_cons hkt] at hF
          have HN : Hid (S.getD vals[k].num false = false → ¬ (Code.Fresh (S.set vals[k].num true) (vals.drop (k + 1)) ∧ Code.Once (Code.addAll (S.set vals[k].num true) (vals.drop (k + 1))) (bks.drop (j + 1)))) :=
            hide fun hfalse h => hF ⟨Code.Fresh.cons hfalse (by omega) h.1, h.2⟩
          clear hF hth d0 d1 hsp
          generalize vals[k].num = x at *
          have hcx0 := hrw.cell x (by omega)
          have hgd : S.getD x false = S[x]'(by omega) := by rw [List.getD_eq_getElem?_getD, List.getElem?_eq_getElem (by omega)]; rfl
          rw [hgd] at HN
          have hfx := blk_froz hrw x
          have hx' : (x : Int) < 60 := by omega
          have hl1 := lt_of_block hrw
          have hl2 := lt_of_block hxs
          generalize S[x]'(by omega) = sx at *
          clear hgd
          cases sx with
          | false =>
            go_wp2
            exact ⟨⟨k + 1, S.set x true, by omega, by go_num, by simp [hS], stay_alloc (hrw.set x true), stay_alloc (stay_set hxs (by simp)), below_al (below_set hbs (by omega) _ _) _, hide (HN.out rfl)⟩, by simp [intOf]; omega⟩
          | true =>
            clear HN
            have hxa := blk_cell hxs 0 _ rfl
            have hxb := blk_cell hxs 1 _ rfl
            go_wp2_with fail
            generalize hw9 : wr.alloc _ = w9
            have hb9 : Below w.heap.size w w9 := by rw [← hw9]; exact below_al hbs _
            clear hw9
            refine (fail_form args bks (some ⟨g, 0, none⟩) c base w9 (HF.out.below hb9) hn (fun b hb => (HL.out b hb).1) j hlt k ⟨by omega, by omega⟩).mono ?_
            rintro e w10 ⟨⟨l, rfl⟩, hb10⟩
            go_wp2
            exact ⟨rfl, ⟨l, rfl⟩, hb9.trans (hb10.mono hb9.size)⟩
        · have HA : Hid (¬ Code.Once S (bks.drop (j + 1))) := hide fun h => hsp.out (by
            rw [List.drop_of_length_le (by omega)]
            exact ⟨⟨by simp [Code.nums], by simp [Code.nums]⟩, h⟩)
          clear hsp
          go_wp2
          refine ⟨⟨j + 1, S, by omega, by go_num, hS, hrw, hxs, hbs, HA⟩, by simp [intOf]; omega⟩
    · exact absurd (by rw [List.drop_of_length_le (by omega)]; trivial) hsp.out

set_option maxRecDepth 100000 in
set_option maxHeartbeats 4000000 in
theorem targets_no (args : Nat) (bks : List Code.Blk) (p : Option Addr) (c : Nat) (base : Nat) (w : World) (hf : RepBlks w base (.slice p bks.length c) bks) (hn : bks.length ≤ 8) (hl : ∀ b ∈ bks, b.values.length ≤ 100000) (ht : ¬ ∀ b ∈ bks, ∀ t ∈ Code.tg b.last, 1 ≤ t ∧ t < bks.length) :
    Calls Tryd.prog 69 #[.agg #[.int .i64 (args : Nat), .slice p bks.length c]] w fun e w' => FailsB w e w' := by
  have HF := hide hf
  have HL := hide hl
  obtain ⟨p', c', hpe, hblk⟩ := hf.open
  simp only [Value.slice.injEq] at hpe
  obtain ⟨rfl, _, rfl⟩ := hpe
  have HBLK := hide hblk
  have HTG := hide ht
  clear hblk hf ht hl
  go_enter Tryd.func69, Tryd.ntmps69
  go_wp2
  generalize hw0 : w.alloc _ = w0
  have hx0 : w0.heap[w.heap.size]? = some (.cells #[.int .i64 (args : Nat), .slice p bks.length c] 47) := by rw [← hw0]; exact heap_alloc_new w _
  have hb0 : Below w.heap.size w w0 := by rw [← hw0]; exact below_al (Below.refl _ _) _
  clear hw0
  go_loopw [9] (fun i wr => ∃ j : Nat, j ≤ bks.length ∧ i = .int .i64 j ∧ wr.heap[w.heap.size]? = some (.cells #[.int .i64 (args : Nat), .slice p bks.length c] 47) ∧ Below w.heap.size w wr ∧ Hid (¬ ∀ b ∈ bks.drop j, ∀ t ∈ Code.tg b.last, 1 ≤ t ∧ t < bks.length)) (fun i _ => bks.length - (intOf i).toNat)
  case atStart => exact ⟨0, by omega, rfl, hx0, hb0, HTG⟩
  case round =>
    obtain ⟨j, hj, rfl, hx, hbw, hsp⟩ := hrel
    clear hx0 hb0 HTG
    have hz := hbw.size
    have hzx := lt_of_block hx
    by_cases hlt : j < bks.length
    · obtain ⟨g, vs, rfl, hg, c0, c1, hvs⟩ := HBLK.out j hlt
      obtain ⟨pv, cv, rfl, hval⟩ := hvs.open
      clear hval
      have c0' : wr.cell? ⟨g, j * 2, none⟩ = some (.slice pv bks[j].values.length cv) := by rw [(bcell hbw).1 g _ hg]; exact c0
      have c1' : wr.cell? ⟨g, j * 2 + 1, none⟩ = some (lastV bks[j].last) := by rw [(bcell hbw).1 g _ hg]; exact c1
      have HTA := hide (targets_any bks[j].last)
      have HSJ : Hid (¬ ((∀ t ∈ Code.tg bks[j].last, 1 ≤ t ∧ t < bks.length) ∧ ∀ b ∈ bks.drop (j + 1), ∀ t ∈ Code.tg b.last, 1 ≤ t ∧ t < bks.length)) := hide fun h => hsp.out (by
        rw [List.drop_eq_getElem_cons hlt]
        intro b hb
        rcases List.mem_cons.1 hb with rfl | hb
        · exact h.1
        · exact h.2 b hb)
      have htl := Code.tg_length bks[j].last
      generalize Code.tg bks[j].last = tl at *
      obtain ⟨T, zv, hzv⟩ := lastV_shape bks[j].last
      rw [hzv] at c1' HTA
      clear c0 c1 hvs hzv hsp
      generalize bks[j].values.length = vl at *
      go_wp2_with fail
      generalize hw3 : wr.alloc _ = w3
      have hb3 : Below w.heap.size w w3 := by rw [← hw3]; exact below_al hbw _
      have hx3 : w3.heap[w.heap.size]? = some (.cells #[.int .i64 (args : Nat), .slice (some ⟨g, 0, none⟩) bks.length c] 47) := by rw [← hw3]; exact stay_alloc hx
      clear hw3 c0' c1'
      refine (HTA.out w3).mono ?_
      rintro e w4 ⟨v4, rfl, hown4, hb4⟩
      have hx4 := (hb4.block _ (lt_of_block hx3)).trans hx3
      have hbw4 : Below w.heap.size w w4 := hb3.trans (hb4.mono hb3.size)
      clear hb3 hb4 hx3
      obtain ⟨p4, c4, rfl, hval4⟩ := nats_open hown4
      have HV4 := hide hval4
      have hcx := blk_cell hx4 1 _ rfl
      have hcx0 := blk_cell hx4 0 _ rfl
      clear hval4 hown4
      go_wp2_with fail
      go_loop [18] (fun i => ∃ k : Nat, k ≤ tl.length ∧ i = .int .i64 k ∧ Hid (¬ ((∀ t ∈ tl.drop k, 1 ≤ t ∧ t < bks.length) ∧ ∀ b ∈ bks.drop (j + 1), ∀ t ∈ Code.tg b.last, 1 ≤ t ∧ t < bks.length))) (fun i => tl.length - (intOf i).toNat)
      case atStart => exact ⟨0, by omega, rfl, HSJ⟩
      case round =>
        obtain ⟨k, hk, rfl, hsp⟩ := hrel
        clear HSJ
        by_cases hkt : k < tl.length
        · obtain ⟨g4, rfl, ct⟩ := HV4.out k hkt
          by_cases hgood : 1 ≤ tl[k] ∧ tl[k] < bks.length
          · obtain ⟨t1, t2⟩ := hgood
            have t1' : ¬ (tl[k] : Int) < 1 := by omega
            have t2' : (tl[k] : Int) < (bks.length : Int) := by omega
            have HN : Hid (¬ ((∀ t ∈ tl.drop (k + 1), 1 ≤ t ∧ t < bks.length) ∧ ∀ b ∈ bks.drop (j + 1), ∀ t ∈ Code.tg b.last, 1 ≤ t ∧ t < bks.length)) := hide fun h => hsp.out ⟨by
              rw [List.drop_eq_getElem_cons hkt]
              intro t ht
              rcases List.mem_cons.1 ht with rfl | ht
              · exact ⟨t1, t2⟩
              · exact h.1 t ht, h.2⟩
            clear HV4 hsp
            go_wp2
            exact ⟨⟨k + 1, by omega, by go_num, HN⟩, by simp [intOf]; omega⟩
          · clear HV4 hsp
            have hcall := hide (failLast_form args bks (some ⟨g, 0, none⟩) c base w4 (HF.out.below hbw4) hn HL.out j hlt)
            by_cases t1 : (tl[k] : Int) < 1
            · clear hgood
              go_wp2_with fail
              refine hcall.out.mono ?_
              rintro e w10 ⟨⟨l, rfl⟩, hb10⟩
              go_wp2
              exact ⟨rfl, ⟨l, rfl⟩, hbw4.trans (hb10.mono hbw4.size)⟩
            · have t2 : ¬ (tl[k] : Int) < (bks.length : Int) := fun h => hgood ⟨by omega, by omega⟩
              clear hgood
              go_wp2_with fail
              refine hcall.out.mono ?_
              rintro e w10 ⟨⟨l, rfl⟩, hb10⟩
              go_wp2
              exact ⟨rfl, ⟨l, rfl⟩, hbw4.trans (hb10.mono hbw4.size)⟩
        · have HA : Hid (¬ ∀ b ∈ bks.drop (j + 1), ∀ t ∈ Code.tg b.last, 1 ≤ t ∧ t < bks.length) := hide fun h => hsp.out ⟨by rw [List.drop_of_length_le (by omega)]; simp, h⟩
          clear hsp
          go_wp2
          exact ⟨⟨j + 1, by omega, by go_num, hx4, hbw4, HA⟩, by simp [intOf]; omega⟩
    · exact absurd (by rw [List.drop_of_length_le (by omega)]; simp) hsp.out

set_option maxRecDepth 100000 in
set_option maxHeartbeats 4000000 in
theorem reached_no (args : Nat) (bks : List Code.Blk) (p : Option Addr) (c : Nat) (base : Nat) (w : World) (hf : RepBlks w base (.slice p bks.length c) bks) (hn : bks.length ≤ 8) (hn0 : 0 < bks.length) (hl : ∀ b ∈ bks, b.values.length ≤ 100000) (ht : ∀ b ∈ bks, ∀ t ∈ Code.tg b.last, t < bks.length)
    (hr : ¬ Code.reachF 9 (Code.tgs bks) (List.replicate bks.length false) 0 = List.replicate bks.length true) :
    Calls Tryd.prog 70 #[.agg #[.int .i64 (args : Nat), .slice p bks.length c]] w fun e w' => FailsB w e w' := by
  obtain ⟨i0, hi, hi0, hi1, hi2⟩ := info_parts infoBool
  have HF := hide hf
  have HTG := hide ht
  have HR := hide hr
  have HL := hide hl
  clear hf ht hr hl
  go_enter Tryd.func70, Tryd.ntmps70
  go_wp2_with (first | (at_make; refine wpList_make_full _ rfl _ _ 79 rfl w.heap.size 4 i0 (.bool false) 1 Tryd.underlying79 hi hi0 hi1 .i64 .i64 _ _ bks.length rfl rfl rfl rfl (by rw [hi2]; omega) (by unfold maxLen; omega) (by simp) ?_; intro w2 hown2 hgrow2; have hnr2 := boolRow_made hown2; rw [alloc_size] at hnr2; have hbx : w2.heap[w.heap.size]? = some (.cells #[.int .i64 (args : Nat), .slice p bks.length c] 47) := (hgrow2.block _ (by simp) (by simp)).trans (heap_alloc_new w _); have hc0 := blk_cell hbx 0 _ rfl; have hc1 := blk_cell hbx 1 _ rfl) | fail)
  have hb2 : Below w.heap.size w w2 := by
    have h := below_al (Below.refl w.heap.size w) (.cells #[.int .i64 (args : Nat), .slice p bks.length c] 47)
    exact h.trans ⟨hgrow2.os, hgrow2.tape, hgrow2.output, hgrow2.size, fun k hk => hgrow2.block k (by simp; omega) (by simp)⟩
  have hfl : Code.falses (List.replicate bks.length false) < 9 := by
    have : Code.falses (List.replicate bks.length false) = bks.length := by rw [Code.falses, List.countP_replicate]; rfl
    omega
  have hfac := (Code.reachF_facts 9 (Code.tgs bks) (List.replicate bks.length false) 0).1
  refine (reach_any args bks p c base (w.heap.size + 1) HTG.out 9 (List.replicate bks.length false) 0 w2 (HF.out.below hb2) (by simp) hn0 hfl hnr2).mono ?_
  generalize Code.reachF 9 (Code.tgs bks) (List.replicate bks.length false) 0 = RR at *
  rintro e w3 ⟨rfl, hrow3, hg3⟩
  have hb3 : Below w.heap.size w w3 := hb2.trans ⟨hg3.os, hg3.tape, hg3.output, hg3.size, fun k hk => hg3.block k (by have := hb2.size; omega) (by simp; omega)⟩
  have hbx3 := kept_block hbx hg3 (by omega)
  have hxa := blk_cell hbx3 0 _ rfl
  have hxb := blk_cell hbx3 1 _ rfl
  have hz3 := lt_of_block hbx3
  have hRl : RR.length = bks.length := by rw [hfac]; simp
  clear hown2 hgrow2 hnr2 hbx hc0 hc1 hb2 hfl hg3 hfac
  go_wp2_with fail
  go_loop [13] (fun i => ∃ k : Nat, k ≤ bks.length ∧ i = .int .i64 k ∧ Hid (∀ q (h : q < RR.length), q < k → RR[q] = true)) (fun i => bks.length - (intOf i).toNat)
  case atStart => exact ⟨0, by omega, rfl, hide fun q h h' => by omega⟩
  case round =>
    obtain ⟨k, hk, rfl, hsp⟩ := hrel
    by_cases hkt : k < bks.length
    · have hc := hrow3.cell k (by omega)
      have HN : Hid (RR[k]'(by omega) = true → ∀ q (h : q < RR.length), q < k + 1 → RR[q] = true) := hide fun e q h h' => by
        by_cases hqk : q < k
        · exact hsp.out q h hqk
        · obtain rfl : q = k := by omega
          exact e
      generalize RR[k]'(by omega) = sx at *
      clear hsp
      cases sx with
      | true =>
        go_wp2
        exact ⟨⟨k + 1, by omega, by go_num, hide (HN.out rfl)⟩, by simp [intOf]; omega⟩
      | false =>
        clear HN
        go_wp2_with fail
        refine (fail_form args bks p c base w3 (HF.out.below hb3) hn HL.out k hkt (-1) ⟨by omega, by omega⟩).mono ?_
        rintro e w10 ⟨⟨l, rfl⟩, hb10⟩
        go_wp2
        exact ⟨rfl, ⟨l, rfl⟩, hb3.trans (hb10.mono hb3.size)⟩
    · refine absurd ?_ HR.out
      apply List.ext_getElem
      · rw [hRl]; simp
      · intro q h1 h2
        rw [hsp.out q h1 (by omega)]; simp
end Go.Proofs.YtedkjanogjglkaaDoor
