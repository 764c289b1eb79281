/-
  Walk: code.reader.values, of a text that is right.
-/
import Derived.Test.YtdffpkmabehfbaaDoorCThing
namespace Go.Proofs.YtdffpkmabehfbaaDoor
open Go.RowKit

theorem ThingV.mono {w w' : World} {base base' : Nat} {y : Code.Thing} {v : Value} (h : ThingV w base y v)
    (hk : ∀ r n xs, w.ownsRow base 3 1 r n xs → w'.ownsRow base' 3 1 r n xs) : ThingV w' base' y v := by
  cases y with
  | phi of => obtain ⟨r, h1, h2⟩ := h; exact ⟨r, h1, hk _ _ _ h2⟩
  | arg n => exact h
  | const n => exact h
  | apply k of => obtain ⟨r, h1, h2⟩ := h; exact ⟨r, h1, hk _ _ _ h2⟩

/-- Values in a row, each in two cells. -/
def RepVals (w : World) (base : Nat) (v : Value) (l : List Code.Val) : Prop :=
  ∃ cs, w.ownsRow base 88 2 v l.length cs ∧ ∀ i (h : i < l.length), ∃ th, cs[i * 2]? = some (.int .i64 (l[i].num : Nat)) ∧ cs[i * 2 + 1]? = some th ∧ ThingV w base l[i].thing th

theorem own_len {w : World} {base e size n : Nat} {v : Value} {xs : List Value} (h : w.ownsRow base e size v n xs) : xs.length = n * size := h.1

theorem RepVals.mono {w w' : World} {base base' : Nat} {v : Value} {l : List Code.Val} (h : RepVals w base v l) (hv : ∀ r n xs, w.ownsRow base 88 2 r n xs → w'.ownsRow base' 88 2 r n xs)
    (hk : ∀ r n xs, w.ownsRow base 3 1 r n xs → w'.ownsRow base' 3 1 r n xs) : RepVals w' base' v l := by
  obtain ⟨cs, h1, h2⟩ := h
  refine ⟨cs, hv _ _ _ h1, fun i hi => ?_⟩
  obtain ⟨th, g0, g1, g2⟩ := h2 i hi
  exact ⟨th, g0, g1, g2.mono hk⟩

/-- While the reader's block turns, and new blocks come. -/
theorem RepVals.kept {w w' : World} {base rb : Nat} {v : Value} {l : List Code.Val} (h : RepVals w base v l) {C : Array Value} {z : Nat × Nat} (hb : w.heap[rb]? = some (.cells C 62 z)) (hg : w.grownBy w' (some rb)) : RepVals w' base v l :=
  h.mono (fun _ _ _ h => own_kept hb hg h (by decide)) (fun _ _ _ h => own_kept hb hg h (by decide))

theorem ThingV.kept {w w' : World} {base rb : Nat} {y : Code.Thing} {v : Value} (h : ThingV w base y v) {C : Array Value} {z : Nat × Nat} (hb : w.heap[rb]? = some (.cells C 62 z)) (hg : w.grownBy w' (some rb)) : ThingV w' base y v :=
  h.mono (fun _ _ _ h => own_kept hb hg h (by decide))

theorem RepVals.snoc {w w3 : World} {base : Nat} {v v' : Value} {l : List Code.Val} {cs : List Value} {y : Code.Val} {th : Value}
    (hown : w.ownsRow base 88 2 v l.length cs) (hcs : ∀ i (h : i < l.length), ∃ th, cs[i * 2]? = some (.int .i64 (l[i].num : Nat)) ∧ cs[i * 2 + 1]? = some th ∧ ThingV w base l[i].thing th)
    (hown' : w3.ownsRow base 88 2 v' (l.length + 1) (cs ++ [.int .i64 (y.num : Nat), th])) (hth : ThingV w base y.thing th) (hg : w.grownBy w3 v.ownBlock) : RepVals w3 base v' (l ++ [y]) := by
  have hk : ∀ r n xs, w.ownsRow base 3 1 r n xs → w3.ownsRow base 3 1 r n xs := fun r n xs h => own_grown hown h (by decide) hg
  have hlen := own_len hown
  refine ⟨_, by simpa using hown', fun i hi => ?_⟩
  by_cases hlt : i < l.length
  · obtain ⟨t, g0, g1, g2⟩ := hcs i hlt
    refine ⟨t, ?_, ?_, ?_⟩
    · rw [List.getElem?_append_left (by omega), List.getElem_append_left hlt]; exact g0
    · rw [List.getElem?_append_left (by omega)]; exact g1
    · rw [List.getElem_append_left hlt]; exact g2.mono hk
  · have hi' : i = l.length := by simp at hi; omega
    subst hi'
    refine ⟨th, ?_, ?_, ?_⟩
    · rw [List.getElem?_append_right (by omega), hlen]; simp
    · rw [List.getElem?_append_right (by omega), hlen]; simp
    · simpa using hth.mono hk

theorem infoVal : (Tryd.prog.info? 88).map (fun i => (i.zero, i.size, i.bytes)) = some (some (.agg #[.int .i64 0, .nilIface]), 2, 24) := by kernel_rfl

namespace Code
theorem ValuesOf.next {a : Nat} {b : Bool} {s t : List UInt8} {vals : List Val} (h : ValuesOf a b s (some (vals, t))) :
    (cut [118] s = none ∧ vals = [] ∧ t = s) ∨ ∃ r t1 u x z v y rest, cut [118] s = some r ∧ value s = some (v, t1) ∧ cut [32, 61, 32] t1 = some u ∧ ThingOf a u (some (y, x)) ∧ (y.isPhi = true → b = true) ∧
      cut [10] x = some z ∧ ValuesOf a y.isPhi z (some (rest, t)) ∧ vals = ⟨v, y⟩ :: rest := by
  generalize ho : some (vals, t) = o at h
  cases h with
  | done h1 =>
    simp only [Option.some.injEq, Prod.mk.injEq] at ho
    exact Or.inl ⟨h1, ho.1, ho.2⟩
  | more h1 h2 h3 h4 h5 h6 h7 =>
    rename_i q
    cases q with
    | none => cases ho
    | some q =>
      simp only [Option.map_some, Option.some.injEq, Prod.mk.injEq] at ho
      obtain ⟨rfl, rfl⟩ := ho
      exact Or.inr ⟨_, _, _, _, _, _, _, _, h1, h2, h3, h4, h5, h6, h7, rfl⟩
  | _ => cases ho
end Code

theorem isPhi_phi (v : Value) (w : World) : (Instr.typeAssert (.iface 90 v) 86 90 true).run Tryd.prog w = .ok (.tuple #[v, .bool true]) w := by kernel_rfl
theorem isPhi_arg (v : Value) (w : World) : (Instr.typeAssert (.iface 92 v) 86 90 true).run Tryd.prog w = .ok (.tuple #[.agg #[.slice none 0 0], .bool false]) w := by kernel_rfl
theorem isPhi_const (v : Value) (w : World) : (Instr.typeAssert (.iface 94 v) 86 90 true).run Tryd.prog w = .ok (.tuple #[.agg #[.slice none 0 0], .bool false]) w := by kernel_rfl
theorem isPhi_apply (v : Value) (w : World) : (Instr.typeAssert (.iface 97 v) 86 90 true).run Tryd.prog w = .ok (.tuple #[.agg #[.slice none 0 0], .bool false]) w := by kernel_rfl

set_option maxRecDepth 100000 in
set_option maxHeartbeats 4000000 in
theorem values_ok (rb : Nat) (s t : List UInt8) (vals : List Code.Val) (l : Int) (a : Nat) (w : World) (hr : RdF w rb s l a) (hs : s.length ≤ 3000) (hl : 0 ≤ l ∧ l + s.length ≤ 100000) (ht : Tab w) (hrb : 0 < rb) (hv : Code.ValuesOf a true s (some (vals, t))) :
    Calls Tryd.prog 41 #[.pointer (some ⟨rb, 0, none⟩)] w fun e w' =>
      ∃ v l', e = .returned v ∧ RepVals w' w.heap.size v vals ∧ RdF w' rb t l' a ∧ 0 ≤ l' ∧ l' + t.length ≤ 100000 ∧ t.length ≤ s.length ∧ w.grownBy w' (some rb) := by
  obtain ⟨i0, hi, hz0, hz1, hz2⟩ := info_parts infoVal
  have HT := hide ht
  clear ht
  go_enter Tryd.func41, Tryd.ntmps41
  go_wp2
  go_loopw [3, 4] (fun v ph wr => ∃ (done more : List Code.Val) (s' : List UInt8) (l' : Int) (b : Bool), ph = .bool b ∧ RepVals wr w.heap.size v done ∧ RdF wr rb s' l' a ∧ 0 ≤ l' ∧ l' + s'.length ≤ 100000 ∧ s'.length ≤ s.length ∧ w.grownBy wr (some rb) ∧
      done.length + s'.length ≤ s.length ∧ Hid (Code.ValuesOf a b s' (some (more, t)) ∧ done ++ more = vals))
    (fun _ _ wr => restLen wr rb)
  case atStart => exact ⟨[], vals, s, l, true, rfl, ⟨[], World.ownsRow_nil _ _ _ _, fun i h => by simp at h⟩, hr, hl.1, hl.2, Nat.le_refl _, grown_refl _ _, by simp, hide ⟨hv, rfl⟩⟩
  case round =>
    obtain ⟨done, more, s', l', b, rfl, hrep, hrd, hl0, hl1, hsl, hgr, hdl, hsp⟩ := hrel
    have hm0 := hide (restLen_of hrd)
    have c0 := hrd.c0
    rcases hsp.out.1.next with ⟨h1, h2, h3⟩ | ⟨r1, t1, u, x, z, n, y, rest, h1, h2, h3, h4, h5, h6, h7, h8⟩
    · have HC := hide h1
      have HE : Hid (done = vals) := by
        have := hsp.out.2
        rw [h2, List.append_nil] at this
        exact this
      subst h3
      clear hsp h1 h2
      go_wp2_with fail
      refine (hasPrefix2_any _ [118] wr (by omega) (by simp)).mono ?_
      rintro e wr ⟨rfl, rfl⟩
      rw [HC.out]
      go_wp2
      go_ret
      exact ⟨_, l', rfl, HE.out ▸ hrep, hrd, hl0, hl1, hsl, hgr⟩
    · have HC := hide h1
      have HN : Hid (Code.ValuesOf a y.isPhi z (some (rest, t)) ∧ (done ++ [⟨n, y⟩]) ++ rest = vals) := by
        refine hide ⟨h7, ?_⟩
        rw [← hsp.out.2, h8]; simp
      have hlv := Code.value_some h2
      have hl3 := Code.cut_length h3
      have hl6 := Code.cut_length h6
      have HV := hide h2
      have H3 := hide h3
      have H4 := hide h4
      have H5 := hide h5
      have H6 := hide h6
      simp only [List.length_cons, List.length_nil] at hl3 hl6
      clear hsp h1 h2 h3 h4 h5 h6 h7 h8
      go_wp2_with fail
      refine (hasPrefix2_any _ [118] wr (by omega) (by simp)).mono ?_
      rintro e wr ⟨rfl, rfl⟩
      rw [HC.out]
      clear HC c0
      go_wp2_with fail
      refine (value_any rb s' l' a wr hrd (by omega)).mono ?_
      rw [HV.out]
      rintro e w1 (⟨n', t', he, rfl, hr1, hg1⟩ | ⟨he, _⟩)
      case inr => cases he
      cases he
      clear HV
      have hrep1 := hrep.kept hrd hg1
      have hgr1 := grown_trans hgr hg1
      clear hrep hrd hgr hg1
      go_wp2_with fail
      refine (take_any rb _ t1 [32, 61, 32] l' 1 _ w1 hr1 (by omega) (by simp)).mono ?_
      rw [H3.out]
      rintro e w2 (⟨u', he, rfl, hr2, hg2⟩ | ⟨he, _⟩)
      case inr => cases he
      cases he
      clear H3
      have hrep2 := hrep1.kept hr1 hg2
      have hgr2 := grown_trans hgr1 hg2
      clear hrep1 hr1 hgr1 hg2
      have ht2 := HT.out.grown hgr2 hrb
      go_wp2_with fail
      refine (thing_ok rb u x y l' a w2 hr2 (by omega) ht2 hrb H4.out).mono ?_
      rintro e w3 ⟨th, rfl, hth, hr3, hxl, hg3⟩
      have hrep3 := hrep2.kept hr2 hg3
      have hgr3 := grown_trans hgr2 hg3
      have hth3 := hth.mono (base' := w.heap.size) (fun _ _ _ h => own_base h hgr2.size)
      clear hrep2 hr2 hgr2 hg3 hth ht2 H4
      have HTH := hide hth3
      have HREP := hide hrep3
      cases y with
      | phi of =>
        obtain ⟨r, rfl, hro⟩ := hth3
        obtain ⟨p, c, rfl⟩ := own_slice hro
        have hb : b = true := H5.out rfl
        subst hb
        have hta := isPhi_phi
        go_wp2_with fail
        generalize hw4 : w3.alloc _ = w4
        have hr4 : RdF w4 rb x l' a := by rw [← hw4]; exact stay_alloc hr3
        have hgr4 : w.grownBy w4 (some rb) := grown_trans hgr3 (by rw [← hw4]; exact grown_alloc _ _ _)
        have hb4 : Below w3.heap.size w3 w4 := by rw [← hw4]; exact below_al (Below.refl _ _) _
        clear hw4
        refine (lineEnd_any rb x l' a w4 hr4 (by omega) ⟨hl0, by omega⟩).mono ?_
        rw [H6.out]
        rintro e w5 (⟨z', he, rfl, hr5, hg5⟩ | ⟨he, _⟩)
        case inr => cases he
        cases he
        have hgr5 := grown_trans hgr4 hg5
        have hz := hgr5.size
        obtain ⟨cs, hcs1, hcs2⟩ := (HREP.out.mono (w' := w4) (base' := w.heap.size) (fun _ _ _ h => own_below h hb4) (fun _ _ _ h => own_below h hb4)).kept hr4 hg5
        have HCS := hide hcs2
        have HTH5 := hide ((HTH.out.mono (w' := w4) (base' := w.heap.size) (fun _ _ _ h => own_below h hb4)).kept hr4 hg5)
        clear hcs2
        go_wp2_with (first | (at_builtin; refine wpList_append_own _ rfl _ _ 68 rfl w.heap.size 88 i0 (.agg #[.int .i64 0, .nilIface]) 2 24 Tryd.underlying68 hi hz0 hz1 hz2 rfl (by decide) _ _ _ rfl (hcs1.alloc _) ⟨_, 0, none⟩ 1 1 [.int .i64 n, .iface 90 (.agg #[.slice p of.length c])] rfl rfl (cell_two_new _ _ _ _) (fun x hx => by simp at hx; rcases hx with rfl | rfl <;> rfl) (by unfold maxLen; omega) (by omega) (by simp; omega) ?_; intro v' w6 hown' hgrow6 hnil6))
        have hr6 : RdF w6 rb z (l' + 1) a := stay_grown (hcs1.alloc _) hgrow6 (stay_alloc hr5) (by decide)
        have hba : Below w5.heap.size w5 (w5.alloc (.cells #[.int .i64 n, .iface 90 (.agg #[.slice p of.length c])] 88)) := below_al (Below.refl _ _) _
        refine ⟨⟨done ++ [⟨n, .phi of⟩], rest, z, l' + 1, (Code.Thing.phi of).isPhi, rfl, ?_, hr6, by omega, by omega, by omega, grown_app hgr5 hgrow6 (fun q hq => (hcs1.lt q hq).1), by simp; omega, HN⟩, ?_⟩
        · refine RepVals.snoc (hcs1.alloc _) (fun i h => ?_) hown' ?_ hgrow6
          · obtain ⟨t0, g0, g1, g2⟩ := HCS.out i h
            exact ⟨t0, g0, g1, g2.mono (fun _ _ _ h => own_below h hba)⟩
          · exact HTH5.out.mono (fun _ _ _ h => own_below h hba)
        · rw [hm0.out, restLen_of hr6]; omega
      | arg m =>
        subst hth3
        have hta := isPhi_arg
        go_wp2_with fail
        generalize hw4 : w3.alloc _ = w4
        have hr4 : RdF w4 rb x l' a := by rw [← hw4]; exact stay_alloc hr3
        have hgr4 : w.grownBy w4 (some rb) := grown_trans hgr3 (by rw [← hw4]; exact grown_alloc _ _ _)
        have hb4 : Below w3.heap.size w3 w4 := by rw [← hw4]; exact below_al (Below.refl _ _) _
        clear hw4
        refine (lineEnd_any rb x l' a w4 hr4 (by omega) ⟨hl0, by omega⟩).mono ?_
        rw [H6.out]
        rintro e w5 (⟨z', he, rfl, hr5, hg5⟩ | ⟨he, _⟩)
        case inr => cases he
        cases he
        have hgr5 := grown_trans hgr4 hg5
        have hz := hgr5.size
        obtain ⟨cs, hcs1, hcs2⟩ := (HREP.out.mono (w' := w4) (base' := w.heap.size) (fun _ _ _ h => own_below h hb4) (fun _ _ _ h => own_below h hb4)).kept hr4 hg5
        have HCS := hide hcs2
        have HTH5 := hide ((HTH.out.mono (w' := w4) (base' := w.heap.size) (fun _ _ _ h => own_below h hb4)).kept hr4 hg5)
        clear hcs2
        go_wp2_with (first | (at_builtin; refine wpList_append_own _ rfl _ _ 68 rfl w.heap.size 88 i0 (.agg #[.int .i64 0, .nilIface]) 2 24 Tryd.underlying68 hi hz0 hz1 hz2 rfl (by decide) _ _ _ rfl (hcs1.alloc _) ⟨_, 0, none⟩ 1 1 [.int .i64 n, .iface 92 (.agg #[.int .i64 m])] rfl rfl (cell_two_new _ _ _ _) (fun x hx => by simp at hx; rcases hx with rfl | rfl <;> rfl) (by unfold maxLen; omega) (by omega) (by simp; omega) ?_; intro v' w6 hown' hgrow6 hnil6))
        have hr6 : RdF w6 rb z (l' + 1) a := stay_grown (hcs1.alloc _) hgrow6 (stay_alloc hr5) (by decide)
        have hba : Below w5.heap.size w5 (w5.alloc (.cells #[.int .i64 n, .iface 92 (.agg #[.int .i64 m])] 88)) := below_al (Below.refl _ _) _
        refine ⟨⟨done ++ [⟨n, .arg m⟩], rest, z, l' + 1, (Code.Thing.arg m).isPhi, rfl, ?_, hr6, by omega, by omega, by omega, grown_app hgr5 hgrow6 (fun q hq => (hcs1.lt q hq).1), by simp; omega, HN⟩, ?_⟩
        · refine RepVals.snoc (hcs1.alloc _) (fun i h => ?_) hown' ?_ hgrow6
          · obtain ⟨t0, g0, g1, g2⟩ := HCS.out i h
            exact ⟨t0, g0, g1, g2.mono (fun _ _ _ h => own_below h hba)⟩
          · exact HTH5.out.mono (fun _ _ _ h => own_below h hba)
        · rw [hm0.out, restLen_of hr6]; omega
      | const m =>
        subst hth3
        have hta := isPhi_const
        go_wp2_with fail
        generalize hw4 : w3.alloc _ = w4
        have hr4 : RdF w4 rb x l' a := by rw [← hw4]; exact stay_alloc hr3
        have hgr4 : w.grownBy w4 (some rb) := grown_trans hgr3 (by rw [← hw4]; exact grown_alloc _ _ _)
        have hb4 : Below w3.heap.size w3 w4 := by rw [← hw4]; exact below_al (Below.refl _ _) _
        clear hw4
        refine (lineEnd_any rb x l' a w4 hr4 (by omega) ⟨hl0, by omega⟩).mono ?_
        rw [H6.out]
        rintro e w5 (⟨z', he, rfl, hr5, hg5⟩ | ⟨he, _⟩)
        case inr => cases he
        cases he
        have hgr5 := grown_trans hgr4 hg5
        have hz := hgr5.size
        obtain ⟨cs, hcs1, hcs2⟩ := (HREP.out.mono (w' := w4) (base' := w.heap.size) (fun _ _ _ h => own_below h hb4) (fun _ _ _ h => own_below h hb4)).kept hr4 hg5
        have HCS := hide hcs2
        have HTH5 := hide ((HTH.out.mono (w' := w4) (base' := w.heap.size) (fun _ _ _ h => own_below h hb4)).kept hr4 hg5)
        clear hcs2
        go_wp2_with (first | (at_builtin; refine wpList_append_own _ rfl _ _ 68 rfl w.heap.size 88 i0 (.agg #[.int .i64 0, .nilIface]) 2 24 Tryd.underlying68 hi hz0 hz1 hz2 rfl (by decide) _ _ _ rfl (hcs1.alloc _) ⟨_, 0, none⟩ 1 1 [.int .i64 n, .iface 94 (.agg #[.int .i32 m])] rfl rfl (cell_two_new _ _ _ _) (fun x hx => by simp at hx; rcases hx with rfl | rfl <;> rfl) (by unfold maxLen; omega) (by omega) (by simp; omega) ?_; intro v' w6 hown' hgrow6 hnil6))
        have hr6 : RdF w6 rb z (l' + 1) a := stay_grown (hcs1.alloc _) hgrow6 (stay_alloc hr5) (by decide)
        have hba : Below w5.heap.size w5 (w5.alloc (.cells #[.int .i64 n, .iface 94 (.agg #[.int .i32 m])] 88)) := below_al (Below.refl _ _) _
        refine ⟨⟨done ++ [⟨n, .const m⟩], rest, z, l' + 1, (Code.Thing.const m).isPhi, rfl, ?_, hr6, by omega, by omega, by omega, grown_app hgr5 hgrow6 (fun q hq => (hcs1.lt q hq).1), by simp; omega, HN⟩, ?_⟩
        · refine RepVals.snoc (hcs1.alloc _) (fun i h => ?_) hown' ?_ hgrow6
          · obtain ⟨t0, g0, g1, g2⟩ := HCS.out i h
            exact ⟨t0, g0, g1, g2.mono (fun _ _ _ h => own_below h hba)⟩
          · exact HTH5.out.mono (fun _ _ _ h => own_below h hba)
        · rw [hm0.out, restLen_of hr6]; omega
      | apply k of =>
        obtain ⟨r, rfl, hro⟩ := hth3
        obtain ⟨p, c, rfl⟩ := own_slice hro
        have hta := isPhi_apply
        go_wp2_with fail
        generalize hw4 : w3.alloc _ = w4
        have hr4 : RdF w4 rb x l' a := by rw [← hw4]; exact stay_alloc hr3
        have hgr4 : w.grownBy w4 (some rb) := grown_trans hgr3 (by rw [← hw4]; exact grown_alloc _ _ _)
        have hb4 : Below w3.heap.size w3 w4 := by rw [← hw4]; exact below_al (Below.refl _ _) _
        clear hw4
        refine (lineEnd_any rb x l' a w4 hr4 (by omega) ⟨hl0, by omega⟩).mono ?_
        rw [H6.out]
        rintro e w5 (⟨z', he, rfl, hr5, hg5⟩ | ⟨he, _⟩)
        case inr => cases he
        cases he
        have hgr5 := grown_trans hgr4 hg5
        have hz := hgr5.size
        obtain ⟨cs, hcs1, hcs2⟩ := (HREP.out.mono (w' := w4) (base' := w.heap.size) (fun _ _ _ h => own_below h hb4) (fun _ _ _ h => own_below h hb4)).kept hr4 hg5
        have HCS := hide hcs2
        have HTH5 := hide ((HTH.out.mono (w' := w4) (base' := w.heap.size) (fun _ _ _ h => own_below h hb4)).kept hr4 hg5)
        clear hcs2
        go_wp2_with (first | (at_builtin; refine wpList_append_own _ rfl _ _ 68 rfl w.heap.size 88 i0 (.agg #[.int .i64 0, .nilIface]) 2 24 Tryd.underlying68 hi hz0 hz1 hz2 rfl (by decide) _ _ _ rfl (hcs1.alloc _) ⟨_, 0, none⟩ 1 1 [.int .i64 n, .iface 97 (.agg #[.int .i64 k, .slice p of.length c])] rfl rfl (cell_two_new _ _ _ _) (fun x hx => by simp at hx; rcases hx with rfl | rfl <;> rfl) (by unfold maxLen; omega) (by omega) (by simp; omega) ?_; intro v' w6 hown' hgrow6 hnil6))
        have hr6 : RdF w6 rb z (l' + 1) a := stay_grown (hcs1.alloc _) hgrow6 (stay_alloc hr5) (by decide)
        have hba : Below w5.heap.size w5 (w5.alloc (.cells #[.int .i64 n, .iface 97 (.agg #[.int .i64 k, .slice p of.length c])] 88)) := below_al (Below.refl _ _) _
        refine ⟨⟨done ++ [⟨n, .apply k of⟩], rest, z, l' + 1, (Code.Thing.apply k of).isPhi, rfl, ?_, hr6, by omega, by omega, by omega, grown_app hgr5 hgrow6 (fun q hq => (hcs1.lt q hq).1), by simp; omega, HN⟩, ?_⟩
        · refine RepVals.snoc (hcs1.alloc _) (fun i h => ?_) hown' ?_ hgrow6
          · obtain ⟨t0, g0, g1, g2⟩ := HCS.out i h
            exact ⟨t0, g0, g1, g2.mono (fun _ _ _ h => own_below h hba)⟩
          · exact HTH5.out.mono (fun _ _ _ h => own_below h hba)
        · rw [hm0.out, restLen_of hr6]; omega
end Go.Proofs.YtdffpkmabehfbaaDoor
