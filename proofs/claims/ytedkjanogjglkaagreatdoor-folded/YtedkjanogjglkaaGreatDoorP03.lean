/-
  Parts of the proof: CValues, CBlock, CFunc, CSet, CSet2.
-/
import Derived.Test.YtedkjanogjglkaaGreatDoorP02
set_option maxRecDepth 100000
set_option maxHeartbeats 4000000
namespace Go.Proofs.YtedkjanogjglkaaGreatDoor
open Go.RowKit
theorem ThingV.mono {w w' : World} {base base' : Nat} {y : Code.Thing} {v : Value} (h : ThingV w base y v)
  (hk : ∀ r n xs, w.ownsRow base 3 1 r n xs -> w'.ownsRow base' 3 1 r n xs) : ThingV w' base' y v := by
 cases y with
 | phi of => obtain ⟨r, h1, h2⟩ := h; exact ⟨r, h1, hk _ _ _ h2⟩
 | arg n => exact h
 | const n => exact h
 | apply k of => obtain ⟨r, h1, h2⟩ := h; exact ⟨r, h1, hk _ _ _ h2⟩
def RepVals (w : World) (base : Nat) (v : Value) (l : List Code.Val) : Prop :=
 ∃ cs, w.ownsRow base 169 2 v l.length cs /\ ∀ i (h : i < l.length), ∃ th, cs[i * 2]? = some (.int .i64 (l[i].num : Nat)) /\ cs[i * 2 + 1]? = some th /\ ThingV w base l[i].thing th
theorem own_len {w : World} {base e size n : Nat} {v : Value} {xs : List Value} (h : w.ownsRow base e size v n xs) : xs.length = n * size := h.1
theorem RepVals.mono {w w' : World} {base base' : Nat} {v : Value} {l : List Code.Val} (h : RepVals w base v l) (hv : ∀ r n xs, w.ownsRow base 169 2 r n xs -> w'.ownsRow base' 169 2 r n xs)
  (hk : ∀ r n xs, w.ownsRow base 3 1 r n xs -> w'.ownsRow base' 3 1 r n xs) : RepVals w' base' v l := by
 obtain ⟨cs, h1, h2⟩ := h
 refine ⟨cs, hv _ _ _ h1, fun i hi => ?_⟩
 obtain ⟨th, g0, g1, g2⟩ := h2 i hi
 exact ⟨th, g0, g1, g2.mono hk⟩
theorem RepVals.kept {w w' : World} {base rb : Nat} {v : Value} {l : List Code.Val} (h : RepVals w base v l) {C : Array Value} {z : Nat × Nat} (hb : w.heap[rb]? = some (.cells C 142 z)) (hg : w.grownBy w' (some rb)) : RepVals w' base v l :=
 h.mono (fun _ _ _ h => own_kept hb hg h (by decide)) (fun _ _ _ h => own_kept hb hg h (by decide))
theorem ThingV.kept {w w' : World} {base rb : Nat} {y : Code.Thing} {v : Value} (h : ThingV w base y v) {C : Array Value} {z : Nat × Nat} (hb : w.heap[rb]? = some (.cells C 142 z)) (hg : w.grownBy w' (some rb)) : ThingV w' base y v :=
 h.mono (fun _ _ _ h => own_kept hb hg h (by decide))
theorem RepVals.snoc {w w3 : World} {base : Nat} {v v' : Value} {l : List Code.Val} {cs : List Value} {y : Code.Val} {th : Value}
  (hown : w.ownsRow base 169 2 v l.length cs) (hcs : ∀ i (h : i < l.length), ∃ th, cs[i * 2]? = some (.int .i64 (l[i].num : Nat)) /\ cs[i * 2 + 1]? = some th /\ ThingV w base l[i].thing th)
  (hown' : w3.ownsRow base 169 2 v' (l.length + 1) (cs ++ [.int .i64 (y.num : Nat), th])) (hth : ThingV w base y.thing th) (hg : w.grownBy w3 v.ownBlock) : RepVals w3 base v' (l ++ [y]) := by
 have hk : ∀ r n xs, w.ownsRow base 3 1 r n xs -> w3.ownsRow base 3 1 r n xs := fun r n xs h => own_grown hown h (by decide) hg
 have hlen := own_len hown
 refine ⟨_, by simpa using hown', fun i hi => ?_⟩
 by_cases hlt : i < l.length
 ·obtain ⟨t, g0, g1, g2⟩ := hcs i hlt
  refine ⟨t, ?_, ?_, ?_⟩
  ·rw [List.getElem?_append_left (by omega), List.getElem_append_left hlt]; exact g0
  ·rw [List.getElem?_append_left (by omega)]; exact g1
  ·rw [List.getElem_append_left hlt]; exact g2.mono hk
 ·have hi' : i = l.length := by simp at hi; omega
  subst hi'
  refine ⟨th, ?_, ?_, ?_⟩
  ·rw [List.getElem?_append_right (by omega), hlen]; simp
  ·rw [List.getElem?_append_right (by omega), hlen]; simp
  ·simpa using hth.mono hk
theorem infoVal : (Tryz.prog.info? 169).map (fun i => (i.zero, i.size, i.bytes)) = some (some (.agg #[.int .i64 0, .nilIface]), 2, 24) := by kernel_rfl
namespace Code
theorem ValuesOf.next {a : Nat} {b : Bool} {s t : List UInt8} {vals : List Val} (h : ValuesOf a b s (some (vals, t))) :
  (cut [118] s = none /\ vals = [] /\ t = s) \/ ∃ r t1 u x z v y rest, cut [118] s = some r /\ value s = some (v, t1) /\ cut [32, 61, 32] t1 = some u /\ ThingOf a u (some (y, x)) /\ (y.isPhi = true -> b = true) /\
   cut [10] x = some z /\ ValuesOf a y.isPhi z (some (rest, t)) /\ vals = ⟨v, y⟩ :: rest := by
 generalize ho : some (vals, t) = o at h
 cases h with
 | done h1 =>
  simp only [Option.some.injEq, Prod.mk.injEq] at ho
  exact Or.inl ⟨h1, ho.1, ho.2⟩
 | more h1 h2 h3 h4 h5 h6 h7 =>
  rename_i q
  cases q with
  | none => cases ho
  | some q =>
   simp only [Option.map_some, Option.some.injEq, Prod.mk.injEq] at ho
   obtain ⟨rfl, rfl⟩ := ho
   exact Or.inr ⟨_, _, _, _, _, _, _, _, h1, h2, h3, h4, h5, h6, h7, rfl⟩
 | _ => cases ho
end Code
theorem isPhi_phi (v : Value) (w : World) : (Instr.typeAssert (.iface 232 v) 167 232 true).run Tryz.prog w = .ok (.tuple #[v, .bool true]) w := by kernel_rfl
theorem isPhi_arg (v : Value) (w : World) : (Instr.typeAssert (.iface 234 v) 167 232 true).run Tryz.prog w = .ok (.tuple #[.agg #[.slice none 0 0], .bool false]) w := by kernel_rfl
theorem isPhi_const (v : Value) (w : World) : (Instr.typeAssert (.iface 236 v) 167 232 true).run Tryz.prog w = .ok (.tuple #[.agg #[.slice none 0 0], .bool false]) w := by kernel_rfl
theorem isPhi_apply (v : Value) (w : World) : (Instr.typeAssert (.iface 238 v) 167 232 true).run Tryz.prog w = .ok (.tuple #[.agg #[.slice none 0 0], .bool false]) w := by kernel_rfl
theorem values_ok (rb : Nat) (s t : List UInt8) (vals : List Code.Val) (l : Int) (a : Nat) (w : World) (hr : RdF w rb s l a) (hs : s.length <= 3000) (hl : 0 <= l /\ l + s.length <= 100000) (ht : Tab w) (hrb : 0 < rb) (hv : Code.ValuesOf a true s (some (vals, t))) :
  Calls Tryz.prog 159 #[.pointer (some ⟨rb, 0, none⟩)] w fun e w' =>
   ∃ v l', e = .returned v /\ RepVals w' w.heap.size v vals /\ RdF w' rb t l' a /\ 0 <= l' /\ l' + t.length <= 100000 /\ t.length <= s.length /\ w.grownBy w' (some rb) := by
 obtain ⟨i0, hi, hz0, hz1, hz2⟩ := info_parts infoVal
 have HT := hide ht
 clear ht
 go_enter Tryz.func159, Tryz.ntmps159
 go_wp2
 go_loopw [3, 4] (fun v ph wr => ∃ (done more : List Code.Val) (s' : List UInt8) (l' : Int) (b : Bool), ph = .bool b /\ RepVals wr w.heap.size v done /\ RdF wr rb s' l' a /\ 0 <= l' /\ l' + s'.length <= 100000 /\ s'.length <= s.length /\ w.grownBy wr (some rb) /\
   done.length + s'.length <= s.length /\ Hid (Code.ValuesOf a b s' (some (more, t)) /\ done ++ more = vals))
  (fun _ _ wr => restLen wr rb)
 case atStart => exact ⟨[], vals, s, l, true, rfl, ⟨[], World.ownsRow_nil _ _ _ _, fun i h => by simp at h⟩, hr, hl.1, hl.2, Nat.le_refl _, grown_refl _ _, by simp, hide ⟨hv, rfl⟩⟩
 case round =>
  obtain ⟨done, more, s', l', b, rfl, hrep, hrd, hl0, hl1, hsl, hgr, hdl, hsp⟩ := hrel
  have hm0 := hide (restLen_of hrd)
  have c0 := hrd.c0
  rcases hsp.out.1.next with ⟨h1, h2, h3⟩ | ⟨r1, t1, u, x, z, n, y, rest, h1, h2, h3, h4, h5, h6, h7, h8⟩
  ·have HC := hide h1
   have HE : Hid (done = vals) := by
    have := hsp.out.2
    rw [h2, List.append_nil] at this
    exact this
   subst h3
   clear hsp h1 h2
   go_wp2_with fail
   refine (hasPrefix2_any _ [118] wr (by omega) (by simp)).mono ?_
   rintro e wr ⟨rfl, rfl⟩
   rw [HC.out]
   go_wp2
   go_ret
   exact ⟨_, l', rfl, HE.out ▸ hrep, hrd, hl0, hl1, hsl, hgr⟩
  ·have HC := hide h1
   have HN : Hid (Code.ValuesOf a y.isPhi z (some (rest, t)) /\ (done ++ [⟨n, y⟩]) ++ rest = vals) := by
    refine hide ⟨h7, ?_⟩
    rw [<- hsp.out.2, h8]; simp
   have hlv := Code.value_some h2
   have hl3 := Code.cut_length h3
   have hl6 := Code.cut_length h6
   have HV := hide h2
   have H3 := hide h3
   have H4 := hide h4
   have H5 := hide h5
   have H6 := hide h6
   simp only [List.length_cons, List.length_nil] at hl3 hl6
   clear hsp h1 h2 h3 h4 h5 h6 h7 h8
   go_wp2_with fail
   refine (hasPrefix2_any _ [118] wr (by omega) (by simp)).mono ?_
   rintro e wr ⟨rfl, rfl⟩
   rw [HC.out]
   clear HC c0
   go_wp2_with fail
   refine (value_any rb s' l' a wr hrd (by omega)).mono ?_
   rw [HV.out]
   rintro e w1 (⟨n', t', he, rfl, hr1, hg1⟩ | ⟨he, _⟩)
   case inr => cases he
   cases he
   clear HV
   have hrep1 := hrep.kept hrd hg1
   have hgr1 := grown_trans hgr hg1
   clear hrep hrd hgr hg1
   go_wp2_with fail
   refine (take_any rb _ t1 [32, 61, 32] l' 1 _ w1 hr1 (by omega) (by simp)).mono ?_
   rw [H3.out]
   rintro e w2 (⟨u', he, rfl, hr2, hg2⟩ | ⟨he, _⟩)
   case inr => cases he
   cases he
   clear H3
   have hrep2 := hrep1.kept hr1 hg2
   have hgr2 := grown_trans hgr1 hg2
   clear hrep1 hr1 hgr1 hg2
   have ht2 := HT.out.grown hgr2 hrb
   go_wp2_with fail
   refine (thing_ok rb u x y l' a w2 hr2 (by omega) ht2 hrb H4.out).mono ?_
   rintro e w3 ⟨th, rfl, hth, hr3, hxl, hg3⟩
   have hrep3 := hrep2.kept hr2 hg3
   have hgr3 := grown_trans hgr2 hg3
   have hth3 := hth.mono (base' := w.heap.size) (fun _ _ _ h => own_base h hgr2.size)
   clear hrep2 hr2 hgr2 hg3 hth ht2 H4
   have HTH := hide hth3
   have HREP := hide hrep3
   cases y with
   | phi of =>
    obtain ⟨r, rfl, hro⟩ := hth3
    obtain ⟨p, c, rfl⟩ := own_slice hro
    have hb : b = true := H5.out rfl
    subst hb
    have hta := isPhi_phi
    go_wp2_with fail
    generalize hw4 : w3.alloc _ = w4
    have hr4 : RdF w4 rb x l' a := by rw [<- hw4]; exact stay_alloc hr3
    have hgr4 : w.grownBy w4 (some rb) := grown_trans hgr3 (by rw [<- hw4]; exact grown_alloc _ _ _)
    have hb4 : Below w3.heap.size w3 w4 := by rw [<- hw4]; exact below_al (Below.refl _ _) _
    clear hw4
    refine (lineEnd_any rb x l' a w4 hr4 (by omega) ⟨hl0, by omega⟩).mono ?_
    rw [H6.out]
    rintro e w5 (⟨z', he, rfl, hr5, hg5⟩ | ⟨he, _⟩)
    case inr => cases he
    cases he
    have hgr5 := grown_trans hgr4 hg5
    have hz := hgr5.size
    obtain ⟨cs, hcs1, hcs2⟩ := (HREP.out.mono (w' := w4) (base' := w.heap.size) (fun _ _ _ h => own_below h hb4) (fun _ _ _ h => own_below h hb4)).kept hr4 hg5
    have HCS := hide hcs2
    have HTH5 := hide ((HTH.out.mono (w' := w4) (base' := w.heap.size) (fun _ _ _ h => own_below h hb4)).kept hr4 hg5)
    clear hcs2
    go_wp2_with (first | (at_builtin; refine wpList_append_own _ rfl _ _ 161 rfl w.heap.size 169 i0 (.agg #[.int .i64 0, .nilIface]) 2 24 Tryz.underlying161 hi hz0 hz1 hz2 rfl (by decide) _ _ _ rfl (hcs1.alloc _) ⟨_, 0, none⟩ 1 1 [.int .i64 n, .iface 232 (.agg #[.slice p of.length c])] rfl rfl (cell_two_new _ _ _ _) (fun x hx => by simp at hx; rcases hx with rfl | rfl <;> rfl) (by unfold maxLen; omega) (by omega) (by simp; omega) ?_; intro v' w6 hown' hgrow6 hnil6))
    have hr6 : RdF w6 rb z (l' + 1) a := stay_grown (hcs1.alloc _) hgrow6 (stay_alloc hr5) (by decide)
    have hba : Below w5.heap.size w5 (w5.alloc (.cells #[.int .i64 n, .iface 232 (.agg #[.slice p of.length c])] 169)) := below_al (Below.refl _ _) _
    refine ⟨⟨done ++ [⟨n, .phi of⟩], rest, z, l' + 1, (Code.Thing.phi of).isPhi, rfl, ?_, hr6, by omega, by omega, by omega, grown_app hgr5 hgrow6 (fun q hq => (hcs1.lt q hq).1), by simp; omega, HN⟩, ?_⟩
    ·refine RepVals.snoc (hcs1.alloc _) (fun i h => ?_) hown' ?_ hgrow6
     ·obtain ⟨t0, g0, g1, g2⟩ := HCS.out i h
      exact ⟨t0, g0, g1, g2.mono (fun _ _ _ h => own_below h hba)⟩
     ·exact HTH5.out.mono (fun _ _ _ h => own_below h hba)
    ·rw [hm0.out, restLen_of hr6]; omega
   | arg m =>
    subst hth3
    have hta := isPhi_arg
    go_wp2_with fail
    generalize hw4 : w3.alloc _ = w4
    have hr4 : RdF w4 rb x l' a := by rw [<- hw4]; exact stay_alloc hr3
    have hgr4 : w.grownBy w4 (some rb) := grown_trans hgr3 (by rw [<- hw4]; exact grown_alloc _ _ _)
    have hb4 : Below w3.heap.size w3 w4 := by rw [<- hw4]; exact below_al (Below.refl _ _) _
    clear hw4
    refine (lineEnd_any rb x l' a w4 hr4 (by omega) ⟨hl0, by omega⟩).mono ?_
    rw [H6.out]
    rintro e w5 (⟨z', he, rfl, hr5, hg5⟩ | ⟨he, _⟩)
    case inr => cases he
    cases he
    have hgr5 := grown_trans hgr4 hg5
    have hz := hgr5.size
    obtain ⟨cs, hcs1, hcs2⟩ := (HREP.out.mono (w' := w4) (base' := w.heap.size) (fun _ _ _ h => own_below h hb4) (fun _ _ _ h => own_below h hb4)).kept hr4 hg5
    have HCS := hide hcs2
    have HTH5 := hide ((HTH.out.mono (w' := w4) (base' := w.heap.size) (fun _ _ _ h => own_below h hb4)).kept hr4 hg5)
    clear hcs2
    go_wp2_with (first | (at_builtin; refine wpList_append_own _ rfl _ _ 161 rfl w.heap.size 169 i0 (.agg #[.int .i64 0, .nilIface]) 2 24 Tryz.underlying161 hi hz0 hz1 hz2 rfl (by decide) _ _ _ rfl (hcs1.alloc _) ⟨_, 0, none⟩ 1 1 [.int .i64 n, .iface 234 (.agg #[.int .i64 m])] rfl rfl (cell_two_new _ _ _ _) (fun x hx => by simp at hx; rcases hx with rfl | rfl <;> rfl) (by unfold maxLen; omega) (by omega) (by simp; omega) ?_; intro v' w6 hown' hgrow6 hnil6))
    have hr6 : RdF w6 rb z (l' + 1) a := stay_grown (hcs1.alloc _) hgrow6 (stay_alloc hr5) (by decide)
    have hba : Below w5.heap.size w5 (w5.alloc (.cells #[.int .i64 n, .iface 234 (.agg #[.int .i64 m])] 169)) := below_al (Below.refl _ _) _
    refine ⟨⟨done ++ [⟨n, .arg m⟩], rest, z, l' + 1, (Code.Thing.arg m).isPhi, rfl, ?_, hr6, by omega, by omega, by omega, grown_app hgr5 hgrow6 (fun q hq => (hcs1.lt q hq).1), by simp; omega, HN⟩, ?_⟩
    ·refine RepVals.snoc (hcs1.alloc _) (fun i h => ?_) hown' ?_ hgrow6
     ·obtain ⟨t0, g0, g1, g2⟩ := HCS.out i h
      exact ⟨t0, g0, g1, g2.mono (fun _ _ _ h => own_below h hba)⟩
     ·exact HTH5.out.mono (fun _ _ _ h => own_below h hba)
    ·rw [hm0.out, restLen_of hr6]; omega
   | const m =>
    subst hth3
    have hta := isPhi_const
    go_wp2_with fail
    generalize hw4 : w3.alloc _ = w4
    have hr4 : RdF w4 rb x l' a := by rw [<- hw4]; exact stay_alloc hr3
    have hgr4 : w.grownBy w4 (some rb) := grown_trans hgr3 (by rw [<- hw4]; exact grown_alloc _ _ _)
    have hb4 : Below w3.heap.size w3 w4 := by rw [<- hw4]; exact below_al (Below.refl _ _) _
    clear hw4
    refine (lineEnd_any rb x l' a w4 hr4 (by omega) ⟨hl0, by omega⟩).mono ?_
    rw [H6.out]
    rintro e w5 (⟨z', he, rfl, hr5, hg5⟩ | ⟨he, _⟩)
    case inr => cases he
    cases he
    have hgr5 := grown_trans hgr4 hg5
    have hz := hgr5.size
    obtain ⟨cs, hcs1, hcs2⟩ := (HREP.out.mono (w' := w4) (base' := w.heap.size) (fun _ _ _ h => own_below h hb4) (fun _ _ _ h => own_below h hb4)).kept hr4 hg5
    have HCS := hide hcs2
    have HTH5 := hide ((HTH.out.mono (w' := w4) (base' := w.heap.size) (fun _ _ _ h => own_below h hb4)).kept hr4 hg5)
    clear hcs2
    go_wp2_with (first | (at_builtin; refine wpList_append_own _ rfl _ _ 161 rfl w.heap.size 169 i0 (.agg #[.int .i64 0, .nilIface]) 2 24 Tryz.underlying161 hi hz0 hz1 hz2 rfl (by decide) _ _ _ rfl (hcs1.alloc _) ⟨_, 0, none⟩ 1 1 [.int .i64 n, .iface 236 (.agg #[.int .i32 m])] rfl rfl (cell_two_new _ _ _ _) (fun x hx => by simp at hx; rcases hx with rfl | rfl <;> rfl) (by unfold maxLen; omega) (by omega) (by simp; omega) ?_; intro v' w6 hown' hgrow6 hnil6))
    have hr6 : RdF w6 rb z (l' + 1) a := stay_grown (hcs1.alloc _) hgrow6 (stay_alloc hr5) (by decide)
    have hba : Below w5.heap.size w5 (w5.alloc (.cells #[.int .i64 n, .iface 236 (.agg #[.int .i32 m])] 169)) := below_al (Below.refl _ _) _
    refine ⟨⟨done ++ [⟨n, .const m⟩], rest, z, l' + 1, (Code.Thing.const m).isPhi, rfl, ?_, hr6, by omega, by omega, by omega, grown_app hgr5 hgrow6 (fun q hq => (hcs1.lt q hq).1), by simp; omega, HN⟩, ?_⟩
    ·refine RepVals.snoc (hcs1.alloc _) (fun i h => ?_) hown' ?_ hgrow6
     ·obtain ⟨t0, g0, g1, g2⟩ := HCS.out i h
      exact ⟨t0, g0, g1, g2.mono (fun _ _ _ h => own_below h hba)⟩
     ·exact HTH5.out.mono (fun _ _ _ h => own_below h hba)
    ·rw [hm0.out, restLen_of hr6]; omega
   | apply k of =>
    obtain ⟨r, rfl, hro⟩ := hth3
    obtain ⟨p, c, rfl⟩ := own_slice hro
    have hta := isPhi_apply
    go_wp2_with fail
    generalize hw4 : w3.alloc _ = w4
    have hr4 : RdF w4 rb x l' a := by rw [<- hw4]; exact stay_alloc hr3
    have hgr4 : w.grownBy w4 (some rb) := grown_trans hgr3 (by rw [<- hw4]; exact grown_alloc _ _ _)
    have hb4 : Below w3.heap.size w3 w4 := by rw [<- hw4]; exact below_al (Below.refl _ _) _
    clear hw4
    refine (lineEnd_any rb x l' a w4 hr4 (by omega) ⟨hl0, by omega⟩).mono ?_
    rw [H6.out]
    rintro e w5 (⟨z', he, rfl, hr5, hg5⟩ | ⟨he, _⟩)
    case inr => cases he
    cases he
    have hgr5 := grown_trans hgr4 hg5
    have hz := hgr5.size
    obtain ⟨cs, hcs1, hcs2⟩ := (HREP.out.mono (w' := w4) (base' := w.heap.size) (fun _ _ _ h => own_below h hb4) (fun _ _ _ h => own_below h hb4)).kept hr4 hg5
    have HCS := hide hcs2
    have HTH5 := hide ((HTH.out.mono (w' := w4) (base' := w.heap.size) (fun _ _ _ h => own_below h hb4)).kept hr4 hg5)
    clear hcs2
    go_wp2_with (first | (at_builtin; refine wpList_append_own _ rfl _ _ 161 rfl w.heap.size 169 i0 (.agg #[.int .i64 0, .nilIface]) 2 24 Tryz.underlying161 hi hz0 hz1 hz2 rfl (by decide) _ _ _ rfl (hcs1.alloc _) ⟨_, 0, none⟩ 1 1 [.int .i64 n, .iface 238 (.agg #[.int .i64 k, .slice p of.length c])] rfl rfl (cell_two_new _ _ _ _) (fun x hx => by simp at hx; rcases hx with rfl | rfl <;> rfl) (by unfold maxLen; omega) (by omega) (by simp; omega) ?_; intro v' w6 hown' hgrow6 hnil6))
    have hr6 : RdF w6 rb z (l' + 1) a := stay_grown (hcs1.alloc _) hgrow6 (stay_alloc hr5) (by decide)
    have hba : Below w5.heap.size w5 (w5.alloc (.cells #[.int .i64 n, .iface 238 (.agg #[.int .i64 k, .slice p of.length c])] 169)) := below_al (Below.refl _ _) _
    refine ⟨⟨done ++ [⟨n, .apply k of⟩], rest, z, l' + 1, (Code.Thing.apply k of).isPhi, rfl, ?_, hr6, by omega, by omega, by omega, grown_app hgr5 hgrow6 (fun q hq => (hcs1.lt q hq).1), by simp; omega, HN⟩, ?_⟩
    ·refine RepVals.snoc (hcs1.alloc _) (fun i h => ?_) hown' ?_ hgrow6
     ·obtain ⟨t0, g0, g1, g2⟩ := HCS.out i h
      exact ⟨t0, g0, g1, g2.mono (fun _ _ _ h => own_below h hba)⟩
     ·exact HTH5.out.mono (fun _ _ _ h => own_below h hba)
    ·rw [hm0.out, restLen_of hr6]; omega
namespace Code
inductive BlockIs (a num : Nat) : List UInt8 -> Blk -> List UInt8 -> Prop
 | mk {s r1 r2 r3 r4 r5 r6 r7 : List UInt8} {vals : List Val} {z : Last} : cut [98] s = some r1 -> below 8 r1 = some (num, r2) -> cut [58] r2 = some r3 -> cut [10] r3 = some r4 -> ValuesOf a true r4 (some (vals, r5)) -> last r5 = some (z, r6) -> cut [10] r6 = some r7 -> BlockIs a num s ⟨vals, z⟩ r7
inductive BlocksIs (a : Nat) : Nat -> List UInt8 -> List Blk -> Prop
 | nil {n : Nat} : BlocksIs a n [] []
 | cons {n : Nat} {s r : List UInt8} {b : Blk} {bs : List Blk} : s ≠ [] -> BlockIs a n s b r -> BlocksIs a (n + 1) r bs -> BlocksIs a n s (b :: bs)
def sFunc : List UInt8 := [102, 117, 110, 99, 32]
inductive FnIs : List UInt8 -> Fn -> Prop
 | mk {s r1 r2 r3 r4 : List UInt8} {args : Nat} {b : Blk} {bs : List Blk} : cut sFunc s = some r1 -> below 5 r1 = some (args, r2) -> cut [10] r2 = some r3 -> BlockIs args 0 r3 b r4 -> BlocksIs args 1 r4 bs -> FnIs s ⟨args, b :: bs⟩
theorem last_length {s t : List UInt8} {z : Last} (h : last s = some (z, t)) : t.length <= s.length := by
 have hb : (behind s).length <= s.length := rest_length _ _ _
 unfold last at h
 split at h
 ·cases hc : cut [32] (behind s) with
  | none => rw [hc] at h; cases h
  | some r =>
   rw [hc] at h
   simp only [Option.bind_some] at h
   cases hv : value r with
   | none => rw [hv] at h; cases h
   | some p =>
    rw [hv] at h
    simp only [Option.map_some, Option.some.injEq, Prod.mk.injEq] at h
    have h1 := cut_length hc
    have h2 := (value_some (show value r = some (p.1, p.2) from hv)).2
    rw [<- h.2]; omega
 ·split at h
  ·cases hc : cut [32] (behind s) with
   | none => rw [hc] at h; cases h
   | some r =>
    rw [hc] at h
    simp only [Option.bind_some] at h
    cases hv : target r with
    | none => rw [hv] at h; cases h
    | some p =>
     rw [hv] at h
     simp only [Option.map_some, Option.some.injEq, Prod.mk.injEq] at h
     have h1 := cut_length hc
     have h2 := (target_some (show target r = some (p.1, p.2) from hv)).2
     rw [<- h.2]; omega
  ·split at h
   ·unfold ifLast at h
    cases hc : cut [32] (behind s) with
    | none => rw [hc] at h; cases h
    | some r =>
     rw [hc] at h
     simp only [Option.bind_some] at h
     cases hv : value r with
     | none => rw [hv] at h; cases h
     | some p =>
      rw [hv] at h
      simp only [Option.bind_some] at h
      cases hc2 : cut [32] p.2 with
      | none => rw [hc2] at h; cases h
      | some r2 =>
       rw [hc2] at h
       simp only [Option.bind_some] at h
       cases hv2 : target r2 with
       | none => rw [hv2] at h; cases h
       | some p2 =>
        rw [hv2] at h
        simp only [Option.bind_some] at h
        cases hc3 : cut [32] p2.2 with
        | none => rw [hc3] at h; cases h
        | some r3 =>
         rw [hc3] at h
         simp only [Option.bind_some] at h
         cases hv3 : target r3 with
         | none => rw [hv3] at h; cases h
         | some p3 =>
          rw [hv3] at h
          simp only [Option.map_some, Option.some.injEq, Prod.mk.injEq] at h
          have h1 := cut_length hc
          have h2 := (value_some (show value r = some (p.1, p.2) from hv)).2
          have h3 := cut_length hc2
          have h4 := (target_some (show target r2 = some (p2.1, p2.2) from hv2)).2
          have h5 := cut_length hc3
          have h6 := (target_some (show target r3 = some (p3.1, p3.2) from hv3)).2
          rw [<- h.2]; omega
   ·cases h
end Code
theorem block_ok (rb : Nat) (s t : List UInt8) (num : Nat) (blk : Code.Blk) (l : Int) (a : Nat) (w : World) (hr : RdF w rb s l a) (hs : s.length <= 3000) (hl : 0 <= l /\ l + s.length <= 100000) (ht : Tab w) (hrb : 0 < rb) (hb : Code.BlockIs a num s blk t) :
  Calls Tryz.prog 118 #[.pointer (some ⟨rb, 0, none⟩), .int .i64 (num : Nat)] w fun e w' =>
   ∃ p c l', e = .returned (.agg #[.slice p blk.values.length c, lastV blk.last]) /\ RepVals w' w.heap.size (.slice p blk.values.length c) blk.values /\ RdF w' rb t l' a /\ 0 <= l' /\ l' + t.length <= 100000 /\ t.length < s.length /\ w.grownBy w' (some rb) := by
 obtain ⟨hl0, hl1⟩ := hl
 cases hb with
 | mk h1 h2 h3 h4 h5 h6 h7 =>
  rename_i r1 r2 r3 r4 r5 r6 vals z
  have l1 := Code.cut_length h1
  have l2 := (Code.below_some h2).2
  have l3 := Code.cut_length h3
  have l4 := Code.cut_length h4
  have l6 := Code.last_length h6
  have l7 := Code.cut_length h7
  simp only [List.length_cons, List.length_nil] at l1 l3 l4 l7
  have H1 := hide h1
  have H2 := hide h2
  have H3 := hide h3
  have H4 := hide h4
  have H5 := hide h5
  have H6 := hide h6
  have H7 := hide h7
  have HT := hide ht
  clear h1 h2 h3 h4 h5 h6 h7 ht
  have hrlt := hr.lt
  go_enter Tryz.func118, Tryz.ntmps118
  go_wp2_with fail
  generalize hw0 : w.alloc _ = w0
  have hg0 : w.grownBy w0 (some rb) := by rw [<- hw0]; exact grown_alloc _ _ _
  have hr0 : RdF w0 rb s l a := by rw [<- hw0]; exact stay_alloc hr
  have hz0 : w0.heap.size = w.heap.size + 1 := by rw [<- hw0]; simp
  have hn0 : w0.heap[w.heap.size]? = some (.cells #[.slice none 0 0, .nilIface] 165) := by rw [<- hw0]; exact heap_alloc_new w _
  clear hw0
  refine (take_any rb _ s [98] l 1 _ w0 hr0 hs (by simp)).mono ?_
  rw [H1.out]
  rintro e w1 (⟨r', he, rfl, hr1, hg1⟩ | ⟨he, _⟩)
  case inr => cases he
  cases he
  clear H1
  go_wp2_with fail
  refine (below_any rb _ r1 l 1 8 _ w1 hr1 (by omega)).mono ?_
  rw [H2.out]
  rintro e w2 (⟨n', r', he, rfl, hr2, hg2⟩ | ⟨he, _⟩)
  case inr => cases he
  cases he
  clear H2
  go_wp2_with fail
  refine (take_any rb _ r2 [58] l 1 _ w2 hr2 (by omega) (by simp)).mono ?_
  rw [H3.out]
  rintro e w3 (⟨r', he, rfl, hr3, hg3⟩ | ⟨he, _⟩)
  case inr => cases he
  cases he
  clear H3
  go_wp2_with fail
  refine (lineEnd_any rb r3 l a w3 hr3 (by omega) ⟨hl0, by omega⟩).mono ?_
  rw [H4.out]
  rintro e w4 (⟨r', he, rfl, hr4, hg4⟩ | ⟨he, _⟩)
  case inr => cases he
  cases he
  clear H4
  have hg4' := grown_trans hg1 (grown_trans hg2 (grown_trans hg3 hg4))
  clear hg1 hg2 hg3 hg4 hr1 hr2 hr3
  go_wp2_with fail
  refine (values_ok rb r4 r5 vals (l + 1) a w4 hr4 (by omega) ⟨by omega, by omega⟩ (HT.out.grown (grown_trans hg0 hg4') hrb) hrb H5.out).mono ?_
  rintro e w5 ⟨v, l5, rfl, hrep5, hr5, hl50, hl51, l5', hg5⟩
  clear H5
  have hrep5' : RepVals w5 w.heap.size v vals := hrep5.mono (fun _ _ _ h => own_base h (grown_trans hg0 hg4').size) (fun _ _ _ h => own_base h (grown_trans hg0 hg4').size)
  clear hrep5
  go_wp2_with fail
  refine (last_any rb r5 l5 a w5 hr5 (by omega)).mono ?_
  rw [H6.out]
  rintro e w6 (⟨z', r', he, rfl, hr6, hg6⟩ | ⟨he, _⟩)
  case inr => cases he
  cases he
  clear H6
  have hrep6 := hrep5'.kept hr5 hg6
  clear hrep5'
  go_wp2_with fail
  refine (lineEnd_any rb r6 l5 a w6 hr6 (by omega) ⟨hl50, by omega⟩).mono ?_
  rw [H7.out]
  rintro e w7 (⟨r', he, rfl, hr7, hg7⟩ | ⟨he, _⟩)
  case inr => cases he
  cases he
  clear H7
  have hrep7 := hrep6.kept hr6 hg7
  clear hrep6
  have hgn := grown_trans hg4' (grown_trans hg5 (grown_trans hg6 hg7))
  have hn7 := kept_block hn0 hgn (by omega)
  have hc0 := blk_cell hn7 0 _ rfl
  have hc1 := blk_cell hn7 1 _ rfl
  have hf0 := blk_froz hn7 0
  have hf1 := blk_froz hn7 1
  obtain ⟨cs, hcs, hcs2⟩ := hrep7
  obtain ⟨p, c, rfl⟩ := own_slice hcs
  have HREP : Hid (RepVals w7 w.heap.size (.slice p vals.length c) vals) := hide ⟨cs, hcs, hcs2⟩
  clear hcs hcs2
  obtain ⟨T, pv, hzv⟩ : ∃ T pv, lastV z = .iface T pv := by cases z <;> exact ⟨_, _, rfl⟩
  have HZ := hide hzv
  simp only [hzv]
  clear hzv
  go_wp2
  refine bodyPost_ret (v := .agg #[.slice p vals.length c, .iface T pv]) (by simp [results, Tryz.results118, go_sem, hc0, hc1]) rfl ?_
  have hrn : rb ≠ w.heap.size := by omega
  refine ⟨p, c, l5 + 1, by simp only [HZ.out], ?_, stay_set (stay_set hr7 hrn) hrn, by omega, by omega, by omega, grown_new (grown_new (grown_trans hg0 hgn) (Nat.le_refl _) _ _) (Nat.le_refl _) _ _⟩
  exact HREP.out.mono (fun _ _ _ h => own_set (own_set h hn7 (by decide)) (set_block hn7) (by decide)) (fun _ _ _ h => own_set (own_set h hn7 (by decide)) (set_block hn7) (by decide))
def RepBlks (w : World) (base : Nat) (v : Value) (l : List Code.Blk) : Prop :=
 ∃ cs, w.ownsRow base 165 2 v l.length cs /\ ∀ i (h : i < l.length), ∃ vs, cs[i * 2]? = some vs /\ cs[i * 2 + 1]? = some (lastV l[i].last) /\ RepVals w base vs l[i].values
theorem RepBlks.mono {w w' : World} {base base' : Nat} {v : Value} {l : List Code.Blk} (h : RepBlks w base v l) (hb : ∀ r n xs, w.ownsRow base 165 2 r n xs -> w'.ownsRow base' 165 2 r n xs)
  (hv : ∀ r n xs, w.ownsRow base 169 2 r n xs -> w'.ownsRow base' 169 2 r n xs)
  (hk : ∀ r n xs, w.ownsRow base 3 1 r n xs -> w'.ownsRow base' 3 1 r n xs) : RepBlks w' base' v l := by
 obtain ⟨cs, h1, h2⟩ := h
 refine ⟨cs, hb _ _ _ h1, fun i hi => ?_⟩
 obtain ⟨vs, g0, g1, g2⟩ := h2 i hi
 exact ⟨vs, g0, g1, g2.mono hv hk⟩
theorem RepBlks.kept {w w' : World} {base rb : Nat} {v : Value} {l : List Code.Blk} (h : RepBlks w base v l) {C : Array Value} {z : Nat × Nat} (hb : w.heap[rb]? = some (.cells C 142 z)) (hg : w.grownBy w' (some rb)) : RepBlks w' base v l :=
 h.mono (fun _ _ _ h => own_kept hb hg h (by decide)) (fun _ _ _ h => own_kept hb hg h (by decide)) (fun _ _ _ h => own_kept hb hg h (by decide))
theorem RepBlks.below {w w' : World} {base : Nat} {v : Value} {l : List Code.Blk} (h : RepBlks w base v l) (hb : Below w.heap.size w w') : RepBlks w' base v l :=
 h.mono (fun _ _ _ h => own_below h hb) (fun _ _ _ h => own_below h hb) (fun _ _ _ h => own_below h hb)
theorem RepVals.below {w w' : World} {base : Nat} {v : Value} {l : List Code.Val} (h : RepVals w base v l) (hb : Below w.heap.size w w') : RepVals w' base v l :=
 h.mono (fun _ _ _ h => own_below h hb) (fun _ _ _ h => own_below h hb)
theorem own_new2 (W : World) {base e : Nat} (x y : Value) (hb : base <= W.heap.size) : (W.alloc (.cells #[x, y] e)).ownsRow base e 2 (.slice (some ⟨W.heap.size, 0, none⟩) 1 1) 1 [x, y] :=
 ⟨by simp, Or.inr ⟨_, _, #[x, y], rfl, hb, heap_alloc_new W _, Nat.le_refl _, by decide, by simp, rfl⟩⟩
theorem RepBlks.snoc {w w3 : World} {base : Nat} {v v' : Value} {l : List Code.Blk} {cs : List Value} {y : Code.Blk} {vs : Value}
  (hown : w.ownsRow base 165 2 v l.length cs) (hcs : ∀ i (h : i < l.length), ∃ vs, cs[i * 2]? = some vs /\ cs[i * 2 + 1]? = some (lastV l[i].last) /\ RepVals w base vs l[i].values)
  (hown' : w3.ownsRow base 165 2 v' (l.length + 1) (cs ++ [vs, lastV y.last])) (hth : RepVals w base vs y.values) (hg : w.grownBy w3 v.ownBlock) : RepBlks w3 base v' (l ++ [y]) := by
 have hk : ∀ r n xs, w.ownsRow base 3 1 r n xs -> w3.ownsRow base 3 1 r n xs := fun r n xs h => own_grown hown h (by decide) hg
 have hk2 : ∀ r n xs, w.ownsRow base 169 2 r n xs -> w3.ownsRow base 169 2 r n xs := fun r n xs h => own_grown hown h (by decide) hg
 have hlen := own_len hown
 refine ⟨_, by simpa using hown', fun i hi => ?_⟩
 by_cases hlt : i < l.length
 ·obtain ⟨t, g0, g1, g2⟩ := hcs i hlt
  refine ⟨t, ?_, ?_, ?_⟩
  ·rw [List.getElem?_append_left (by omega)]; exact g0
  ·rw [List.getElem?_append_left (by omega), List.getElem_append_left hlt]; exact g1
  ·rw [List.getElem_append_left hlt]; exact g2.mono hk2 hk
 ·have hi' : i = l.length := by simp at hi; omega
  subst hi'
  refine ⟨vs, ?_, ?_, ?_⟩
  ·rw [List.getElem?_append_right (by omega), hlen]; simp
  ·rw [List.getElem?_append_right (by omega), hlen]; simp
  ·simpa using hth.mono hk2 hk
theorem infoBlk : (Tryz.prog.info? 165).map (fun i => (i.zero, i.size, i.bytes)) = some (some (.agg #[.slice none 0 0, .nilIface]), 2, 40) := by kernel_rfl
theorem function_ok (rb : Nat) (s : List UInt8) (f : Code.Fn) (l : Int) (a : Nat) (w : World) (hr : RdF w rb s l a) (hs : s.length <= 3000) (hl : 0 <= l /\ l + s.length <= 100000) (ht : Tab w) (hrb : 0 < rb) (hf : Code.FnIs s f) :
  Calls Tryz.prog 74 #[.pointer (some ⟨rb, 0, none⟩)] w fun e w' =>
   ∃ p c, e = .returned (.agg #[.int .i64 (f.args : Nat), .slice p f.blocks.length c]) /\ RepBlks w' w.heap.size (.slice p f.blocks.length c) f.blocks /\ w.grownBy w' (some rb) := by
 obtain ⟨hl0, hl1⟩ := hl
 obtain ⟨i0, hi, hz0', hz1, hz2⟩ := info_parts infoBlk
 cases hf with
 | mk h1 h2 h3 h4 h5 =>
  rename_i r1 r2 r3 r4 args b bks
  have l1 := Code.cut_length h1
  have l2 := (Code.below_some h2).2
  have l3 := Code.cut_length h3
  simp only [List.length_cons, List.length_nil, Code.sFunc] at l1 l3
  have H1 := hide h1
  have H2 := hide h2
  have H3 := hide h3
  have H4 := hide h4
  have H5 := hide h5
  have HT := hide ht
  unfold Code.sFunc at H1
  clear h1 h2 h3 h4 h5 ht
  have hrlt := hr.lt
  go_enter Tryz.func74, Tryz.ntmps74
  go_wp2_with fail
  generalize hw0 : w.alloc _ = w0
  have hg0 : w.grownBy w0 (some rb) := by rw [<- hw0]; exact grown_alloc _ _ _
  have hr0 : RdF w0 rb s l a := by rw [<- hw0]; exact stay_alloc hr
  have hz0 : w0.heap.size = w.heap.size + 1 := by rw [<- hw0]; simp
  have hn0 : w0.heap[w.heap.size]? = some (.cells #[.int .i64 0, .slice none 0 0] 78) := by rw [<- hw0]; exact heap_alloc_new w _
  clear hw0
  refine (take_any rb _ s [102, 117, 110, 99, 32] l 1 _ w0 hr0 hs (by simp)).mono ?_
  rw [H1.out]
  rintro e w1 (⟨r', he, rfl, hr1, hg1⟩ | ⟨he, _⟩)
  case inr => cases he
  cases he
  clear H1
  go_wp2_with fail
  refine (below_any rb _ r1 l 1 5 _ w1 hr1 (by omega)).mono ?_
  rw [H2.out]
  rintro e w2 (⟨n', r', he, rfl, hr2, hg2⟩ | ⟨he, _⟩)
  case inr => cases he
  cases he
  clear H2
  have c3 := hr2.c3
  have f3 := hr2.fz 3
  go_wp2_with fail
  generalize hw3 : w2.setCell _ _ = w3
  have hr3 : RdF w3 rb r2 l args := by rw [<- hw3]; exact hr2.set3 _
  have hg3 : w2.grownBy w3 (some rb) := by rw [<- hw3]; exact grown_set _ _ _ _
  have hg3' := grown_trans hg1 (grown_trans hg2 hg3)
  clear hw3 hg1 hg2 hg3 hr1 hr2 c3 f3
  refine (lineEnd_any rb r2 l args w3 hr3 (by omega) ⟨hl0, by omega⟩).mono ?_
  rw [H3.out]
  rintro e w4 (⟨r', he, rfl, hr4, hg4⟩ | ⟨he, _⟩)
  case inr => cases he
  cases he
  clear H3
  have hg4' := grown_trans hg3' hg4
  have hn4 := kept_block hn0 hg4' (by omega)
  have hgw4 := grown_trans hg0 hg4'
  clear hg3' hg4 hr3 hr0 hn0
  go_wp2_with fail
  refine (block_ok rb r3 r4 0 b (l + 1) args w4 hr4 (by omega) ⟨by omega, by omega⟩ (HT.out.grown hgw4 hrb) hrb H4.out).mono ?_
  rintro e w5 ⟨p, c, l5, rfl, hrep5, hr5, hl50, hl51, l5', hg5⟩
  clear H4
  have hgw5 := grown_trans hgw4 hg5
  have hn5 := kept_block hn4 hg5 (by omega)
  have HREP : Hid (RepVals w5 w.heap.size (.slice p b.values.length c) b.values) := hide (hrep5.mono (fun _ _ _ h => own_base h hgw4.size) (fun _ _ _ h => own_base h hgw4.size))
  clear hrep5 hg5 hn4 hr4 hgw4
  obtain ⟨T, pv, hzv⟩ : ∃ T pv, lastV b.last = .iface T pv := by cases b.last <;> exact ⟨_, _, rfl⟩
  have HZ := hide hzv
  simp only [hzv]
  clear hzv
  go_wp2_with fail
  have hsz5 := hgw5.size
  have hrep6 : RepBlks (w5.alloc (.cells #[.slice p b.values.length c, .iface T pv] 165)) w.heap.size (.slice (some ⟨w5.heap.size, 0, none⟩) 1 1) [b] := by
   refine ⟨_, own_new2 w5 _ _ hsz5, fun i hi => ?_⟩
   have hi0 : i = 0 := by simpa using hi
   subst hi0
   exact ⟨_, rfl, by simp [HZ.out], HREP.out.below (below_al (Below.refl _ _) _)⟩
  generalize hw6 : w5.alloc _ = w6 at *
  have hr6 : RdF w6 rb r4 l5 args := by rw [<- hw6]; exact stay_alloc hr5
  have hn6 : w6.heap[w.heap.size]? = some (.cells #[.int .i64 0, .slice none 0 0] 78) := by rw [<- hw6]; exact stay_alloc hn5
  have hgw6 : w.grownBy w6 (some rb) := grown_trans hgw5 (by rw [<- hw6]; exact grown_alloc _ _ _)
  clear hw6 hr5 hn5 hgw5 HREP HZ hg4'
  go_loopw [3] (fun v wr => ∃ (done more : List Code.Blk) (s' : List UInt8) (l' : Int), RepBlks wr w.heap.size v done /\ RdF wr rb s' l' args /\ 0 <= l' /\ l' + s'.length <= 100000 /\ w.grownBy wr (some rb) /\
    done.length + s'.length <= s.length /\ wr.heap[w.heap.size]? = some (.cells #[.int .i64 0, .slice none 0 0] 78) /\ Hid (Code.BlocksIs args done.length s' more /\ done ++ more = b :: bks))
   (fun _ wr => restLen wr rb)
  case atStart => exact ⟨[b], bks, r4, l5, hrep6, hr6, hl50, hl51, hgw6, by simp; omega, hn6, hide ⟨H5.out, rfl⟩⟩
  case round =>
   obtain ⟨done, more, s', l', hrep, hrd, hl0', hl1', hgr, hdl, hnn, hsp⟩ := hrel
   clear hrep6 hr6 hn6 hgw6 H5
   have hm0 := hide (restLen_of hrd)
   have c0 := hrd.c0
   have c3 := hrd.c3
   obtain ⟨cs, hcs, hcs2⟩ := hrep
   obtain ⟨p, c, rfl⟩ := own_slice hcs
   have HREP : Hid (RepBlks wr w.heap.size (.slice p done.length c) done) := hide ⟨cs, hcs, hcs2⟩
   clear hcs hcs2
   have hdone := hsp.out.1
   generalize hN : done.length = N at *
   generalize hM : more = M at *
   have HE := hide hsp.out.2
   clear hsp
   cases hdone with
   | nil =>
    have q1 : ((bs ([] : List UInt8)).toList == []) = true := toList_yes (by rw [bl_bs])
    have HEQ : Hid (done = b :: bks) := by
     have := HE.out
     rw [List.append_nil] at this
     exact this
    have hc0 := blk_cell hnn 0 _ rfl
    have hc1 := blk_cell hnn 1 _ rfl
    have hf0 := blk_froz hnn 0
    have hf1 := blk_froz hnn 1
    go_wp2
    refine bodyPost_ret (v := .agg #[.int .i64 (args : Nat), .slice p N c]) (by simp [results, Tryz.results74, go_sem, hc0, hc1]) rfl ?_
    have hlen : N = (b :: bks).length := by rw [<- HEQ.out]; exact hN.symm
    have e2 : N = bks.length + 1 := by simpa using hlen
    refine ⟨p, c, by rw [hlen]; rfl, ?_, grown_new (grown_new hgr (Nat.le_refl _) _ _) (Nat.le_refl _) _ _⟩
    have := HREP.out.mono (fun _ _ _ h => own_set (u := .int .i64 (args : Nat)) (o := 0) h hnn (by decide)) (fun _ _ _ h => own_set (o := 0) (u := .int .i64 (args : Nat)) h hnn (by decide)) (fun _ _ _ h => own_set (o := 0) (u := .int .i64 (args : Nat)) h hnn (by decide))
    have := this.mono (fun _ _ _ h => own_set (u := .slice p N c) (o := 1) h (set_block hnn) (by decide)) (fun _ _ _ h => own_set (o := 1) (u := .slice p N c) h (set_block hnn) (by decide)) (fun _ _ _ h => own_set (o := 1) (u := .slice p N c) h (set_block hnn) (by decide))
    rw [HEQ.out] at this
    show RepBlks _ _ (.slice p (bks.length + 1) c) _
    rw [<- e2]
    exact this
   | cons h1 h2 h3 =>
    rename_i r b' bks'
    have q1 : ((bs s').toList == []) = false := toList_no (by rw [bl_bs]; exact h1)
    have H2 := hide h2
    have H3 := hide h3
    have HN := hide hN
    clear h1 h2 h3 hN
    go_wp2_with fail
    refine (block_ok rb s' r N b' l' args wr hrd (by omega) ⟨by omega, by omega⟩ (HT.out.grown hgr hrb) hrb H2.out).mono ?_
    rintro e w5 ⟨p5, c5, l5, rfl, hrep5, hr5, hl50, hl51, l5', hg5⟩
    have hgw5 := grown_trans hgr hg5
    have hn5 := kept_block hnn hg5 (by omega)
    have HREP5 : Hid (RepVals w5 w.heap.size (.slice p5 b'.values.length c5) b'.values) := hide (hrep5.mono (fun _ _ _ h => own_base h hgr.size) (fun _ _ _ h => own_base h hgr.size))
    obtain ⟨cs, hcs1, hcs2⟩ := HREP.out.kept hrd hg5
    have HCS := hide hcs2
    clear hrep5 hg5 hnn hcs2 HREP
    obtain ⟨T, pv, hzv⟩ : ∃ T pv, lastV b'.last = .iface T pv := by cases b'.last <;> exact ⟨_, _, rfl⟩
    have HZ := hide hzv
    simp only [hzv]
    clear hzv
    rw [HN.out] at hcs1
    have hsz5 := hgw5.size
    go_wp2_with (first | (at_builtin; refine wpList_append_own _ rfl _ _ 76 rfl w.heap.size 165 i0 (.agg #[.slice none 0 0, .nilIface]) 2 40 Tryz.underlying76 hi hz0' hz1 hz2 rfl (by decide) _ _ _ rfl (hcs1.alloc _) ⟨_, 0, none⟩ 1 1 [.slice p5 b'.values.length c5, .iface T pv] rfl rfl (cell_two_new _ _ _ _) (fun x hx => by simp at hx; rcases hx with rfl | rfl <;> rfl) (by unfold maxLen; omega) (by omega) (by simp; omega) ?_; intro v' w6 hown' hgrow6 hnil6))
    have hba : Below w5.heap.size w5 (w5.alloc (.cells #[.slice p5 b'.values.length c5, .iface T pv] 165)) := below_al (Below.refl _ _) _
    have hr6 : RdF w6 rb r l5 args := stay_grown (hcs1.alloc _) hgrow6 (stay_alloc hr5) (by decide)
    refine ⟨⟨done ++ [b'], bks', r, l5, ?_, hr6, hl50, hl51, grown_app hgw5 hgrow6 (fun q hq => (hcs1.lt q hq).1), by have := HN.out; simp; omega, stay_grown (hcs1.alloc _) hgrow6 (stay_alloc hn5) (by decide), ?_⟩, ?_⟩
    ·rw [<- HN.out] at hcs1 hown' hgrow6
     refine RepBlks.snoc (hcs1.alloc _) (fun i h => ?_) (by rw [HZ.out]; exact hown') (HREP5.out.below hba) hgrow6
     obtain ⟨t0, g0, g1, g2⟩ := HCS.out i h
     exact ⟨t0, g0, g1, g2.below hba⟩
    ·refine hide ⟨?_, ?_⟩
     ·have := H3.out
      rw [<- HN.out] at this
      simpa using this
     ·rw [<- HE.out]; simp
    ·rw [hm0.out, restLen_of hr6]; omega
def setL (R : List Bool) : List Value := R.map Value.bool
def setA (R : List Bool) : Array Value := (setL R).toArray
def setRow (w : World) (g : Nat) (R : List Bool) : Prop := w.heap[g]? = some (.cells (setA R) 281)
theorem setL_length (R : List Bool) : (setL R).length = R.length := by simp [setL]
theorem setRow.cell {w : World} {g : Nat} {R : List Bool} (h : setRow w g R) (i : Nat) (hi : i < R.length) : w.cell? ⟨g, i, none⟩ = some (.bool R[i]) :=
 blk_cell h i _ (by simp [setA, setL, hi])
theorem setRow.set {w : World} {g : Nat} {R : List Bool} (h : setRow w g R) (i : Nat) (b : Bool) : setRow (w.setCell ⟨g, i, none⟩ (.bool b)) g (R.set i b) := by
 unfold setRow at *
 rw [set_block h]
 simp [setA, setL, List.map_set]
theorem setRow.range {w : World} {g : Nat} {R : List Bool} (h : setRow w g R) : w.rangeAt g 0 (setL R) := by
 intro j v hv
 rw [Nat.zero_add]
 exact blk_cell h j v (by simpa [setA] using hv)
theorem setRow.there {w : World} {g : Nat} {R : List Bool} (h : setRow w g R) : w.there g 0 R.length := by
 intro j hj
 rw [Nat.zero_add]
 exact ⟨by rw [h.cell j hj]; rfl, blk_froz h j⟩
theorem setCells_block (b : Nat) {T : TypeId} {z : Nat × Nat} : ∀ (vs : List Value) (o : Nat) (w : World) (C : Array Value), w.heap[b]? = some (.cells C T z) -> o + vs.length <= C.size ->
  ∃ C' : Array Value, (w.setCells b o vs).heap[b]? = some (.cells C' T z) /\ C'.size = C.size /\ (∀ j, j < o -> C'[j]? = C[j]?) /\ (∀ j, j < vs.length -> C'[o + j]? = vs[j]?) /\ (∀ j, o + vs.length <= j -> C'[j]? = C[j]?)
 | [], o, w, C, h, _ => ⟨C, h, rfl, fun _ _ => rfl, fun j hj => by simp at hj, fun _ _ => rfl⟩
 | v :: r, o, w, C, h, hs => by
  simp only [List.length_cons] at hs
  obtain ⟨C', h1, h2, h3, h4, h5⟩ := setCells_block b r (o + 1) (w.setCell ⟨b, o, none⟩ v) _ (set_block h) (by simp; omega)
  refine ⟨C', h1, by simpa using h2, fun j hj => ?_, fun j hj => ?_, fun j hj => ?_⟩
  ·rw [h3 j (by omega), Array.getElem?_setIfInBounds_ne (by omega)]
  ·cases j with
   | zero =>
    rw [Nat.add_zero, h3 o (by omega), Array.getElem?_setIfInBounds_self_of_lt (by omega)]; rfl
   | succ j =>
    simp only [List.length_cons] at hj
    have := h4 j (by omega)
    rw [show o + 1 + j = o + (j + 1) by omega] at this
    rw [this]; rfl
  ·simp only [List.length_cons] at hj
   rw [h5 j (by omega), Array.getElem?_setIfInBounds_ne (by omega)]
theorem setCells_other (b : Nat) {k : Nat} (hk : k ≠ b) : ∀ (vs : List Value) (o : Nat) (w : World), (w.setCells b o vs).heap[k]? = w.heap[k]?
 | [], _, _ => rfl
 | v :: r, o, w => by
  show ((w.setCell ⟨b, o, none⟩ v).setCells b (o + 1) r).heap[k]? = _
  rw [setCells_other b hk r, Below.heap_setCell w ⟨b, o, none⟩ v k hk]
theorem setCells_size (b : Nat) : ∀ (vs : List Value) (o : Nat) (w : World), (w.setCells b o vs).heap.size = w.heap.size
 | [], _, _ => rfl
 | v :: r, o, w => by
  show ((w.setCell ⟨b, o, none⟩ v).setCells b (o + 1) r).heap.size = _
  rw [setCells_size b r, size_set]
theorem setCells_rest (b : Nat) : ∀ (vs : List Value) (o : Nat) (w : World), (w.setCells b o vs).os = w.os /\ (w.setCells b o vs).tape = w.tape /\ (w.setCells b o vs).output = w.output
 | [], _, _ => ⟨rfl, rfl, rfl⟩
 | v :: r, o, w => by
  have := setCells_rest b r (o + 1) (w.setCell ⟨b, o, none⟩ v)
  exact ⟨this.1.trans rfl, this.2.1.trans rfl, this.2.2.trans rfl⟩
theorem below_cells {a w : World} (h : Below a.heap.size a w) {b : Nat} (hb : a.heap.size <= b) (o : Nat) (vs : List Value) : Below a.heap.size a (w.setCells b o vs) := by
 obtain ⟨h1, h2, h3⟩ := setCells_rest b vs o w
 exact ⟨h1.trans h.os, h2.trans h.tape, h3.trans h.output, by rw [setCells_size]; exact h.size, fun k hk => by rw [setCells_other b (by omega)]; exact h.block k hk⟩
theorem stay_cells {w : World} {b k : Nat} {o : Nat} {vs : List Value} {x : Obj} (h : w.heap[k]? = some x) (hne : k ≠ b) : (w.setCells b o vs).heap[k]? = some x := by
 rw [setCells_other b hne]; exact h
theorem setRow.put {w : World} {g : Nat} {R : List Bool} (h : setRow w g R) (R' : List Bool) (hl : R'.length = R.length) : setRow (w.setCells g 0 (setL R')) g R' := by
 obtain ⟨C', h1, h2, h3, h4, h5⟩ := setCells_block g (setL R') 0 w _ h (by simp [setA, setL, hl])
 unfold setRow
 rw [h1]
 congr 2
 apply Array.ext_getElem?
 intro j
 by_cases hj : j < (setL R').length
 ·have := h4 j hj
  rw [Nat.zero_add] at this
  rw [this]; simp [setA]
 ·rw [Array.getElem?_eq_none (by rw [h2]; simp [setA, setL] at *; omega), Array.getElem?_eq_none (by simp [setA]; omega)]
theorem setOne (R : List Bool) : (setA R).all (·.oneCell') = true := all_oneCell_toArray (fun v hv => by
 obtain ⟨b, _, rfl⟩ := List.mem_map.1 hv
 rfl)
theorem setSize (R : List Bool) (h : R.length = 60) : (Tryz.prog.info? 281).map (·.size) = some (setL R).length := by
 rw [setL_length, h]; kernel_rfl
theorem setSize' (R : List Bool) (h : R.length = 60) : (Tryz.prog.info? 281).map (·.size) = some (setA R).size := by
 simp only [setA, List.size_toArray]; exact setSize R h
def noNumber : List Bool := List.replicate 60 false
theorem replicate_set (k : Nat) (h : k < 60) : (List.replicate k true ++ List.replicate (60 - k) false).set k true = List.replicate (k + 1) true ++ List.replicate (60 - (k + 1)) false := by
 rw [show 60 - k = (60 - (k + 1)) + 1 by omega, List.replicate_succ, List.set_append_right _ _ (by simp)]
 simp [List.replicate_succ']
theorem everyNumber_any (w : World) :
  Calls Tryz.prog 202 #[] w fun e w' => e = .returned (.agg (setA (List.replicate 60 true))) /\ Below w.heap.size w w' := by
 go_enter Tryz.func202, Tryz.ntmps202
 go_wp2
 generalize hw0 : (w.alloc _).alloc _ = w0
 have hr0 : setRow w0 w.heap.size noNumber := by rw [<- hw0]; exact stay_alloc (heap_alloc_new w _)
 have hr1 : setRow w0 (w.heap.size + 1) noNumber := by
  have h := heap_alloc_new (w.alloc (.cells (setA noNumber) 281)) (.cells (setA noNumber) 281)
  rw [show (w.alloc (.cells (setA noNumber) 281)).heap.size = w.heap.size + 1 by simp] at h
  rw [<- hw0]; exact h
 have hb0 : Below w.heap.size w w0 := by rw [<- hw0]; exact below_al (below_al (Below.refl _ _) _) _
 clear hw0
 go_loopw [3] (fun i wr => ∃ k : Nat, k <= 60 /\ i = .int .i64 k /\ setRow wr (w.heap.size + 1) (List.replicate k true ++ List.replicate (60 - k) false) /\ setRow wr w.heap.size noNumber /\ Below w.heap.size w wr) (fun i _ => 60 - (intOf i).toNat)
 case atStart => exact ⟨0, by omega, rfl, hr1, hr0, hb0⟩
 case round =>
  obtain ⟨k, hk, rfl, h1, h2, hbw⟩ := hrel
  by_cases hlt : k < 60
  ·have hc := h1.cell k (by simp; omega)
   have hf := blk_froz h1 k
   have hk' : (k : Int) < 60 := by omega
   go_wp2
   refine ⟨⟨k + 1, by omega, by go_num, ?_, stay_set h2 (show w.heap.size ≠ w.heap.size + 1 by omega), below_set hbw (by omega) _ _⟩, by simp [intOf]; omega⟩
   rw [<- replicate_set k hlt]
   exact h1.set k true
  ·have hk60 : k = 60 := by omega
   subst hk60
   have h1' : setRow wr (w.heap.size + 1) (List.replicate 60 true) := h1
   clear h1
   have HL := hide (setSize (List.replicate 60 true) (by simp))
   have HL' := hide (setSize' (List.replicate 60 true) (by simp))
   have HO := hide (setOne (List.replicate 60 true))
   have HTH := hide h2.there
   have hR : (List.replicate 60 true).length = 60 := by simp
   generalize hRR : List.replicate 60 true = R at *
   have HRR := hide hRR
   clear hRR
   go_wp2_with (first | refine wpList_load_mid rfl 281 _ rfl (w.heap.size + 1) 0 rfl (setL R) _ h1'.range Tryz.underlying281 rfl HL.out ?_ | refine wpList_store_mid rfl 281 _ _ rfl w.heap.size 0 (setA R) rfl rfl ?_ HL'.out HO.out ?_)
   ·have h := HTH.out
    rw [show noNumber.length = (setA R).size by simp [noNumber, setA, setL, hR]] at h
    exact h
   ·have hp : setRow (wr.setCells w.heap.size 0 (setA R).toList) w.heap.size R := h2.put R (by simp [noNumber, hR])
    refine bodyPost_ret (v := .agg (setA R)) (results_cell_row rfl _ _ w.heap.size 281 (setA R) _ _ rfl hp Tryz.underlying281 rfl HL'.out) rfl ?_
    rw [HRR.out]
    exact ⟨rfl, below_cells hbw (Nat.le_refl _) _ _⟩
namespace Code
def both (R S : List Bool) : List Bool := List.zipWith (· && ·) R S
def bothTo (R S : List Bool) (k : Nat) : List Bool := (both R S).take k ++ R.drop k
theorem both_length {R S : List Bool} (h : R.length = 60) (h' : S.length = 60) : (both R S).length = 60 := by simp [both, h, h']
theorem bothTo_length {R S : List Bool} (h : R.length = 60) (h' : S.length = 60) (k : Nat) : (bothTo R S k).length = 60 := by
 have := both_length h h'
 simp [bothTo, this, h]; omega
theorem bothTo_get {R S : List Bool} (h : R.length = 60) (h' : S.length = 60) (k : Nat) (hk : k < 60) : (bothTo R S k)[k]? = some (R[k]'(by omega)) := by
 have := both_length h h'
 rw [bothTo, List.getElem?_append_right (by simp; omega)]
 simp [this]
 rw [show k + (k - min k 60) = k by omega, List.getElem?_eq_getElem (by omega)]
theorem bothTo_set {R S : List Bool} (h : R.length = 60) (h' : S.length = 60) (k : Nat) (hk : k < 60) : (bothTo R S k).set k (R[k]'(by omega) && S[k]'(by omega)) = bothTo R S (k + 1) := by
 have hl := both_length h h'
 apply List.ext_getElem?
 intro j
 rw [List.getElem?_set]
 by_cases hj : k = j
 ·subst hj
  rw [if_pos rfl, if_pos (by rw [bothTo_length h h']; exact hk), bothTo, List.getElem?_append_left (by simp; omega), List.getElem?_take_of_lt (by omega), List.getElem?_eq_getElem (by omega)]
  simp [both]
 ·rw [if_neg hj]
  by_cases hjk : j < k
  ·rw [bothTo, bothTo, List.getElem?_append_left (by simp; omega), List.getElem?_append_left (by simp; omega), List.getElem?_take_of_lt hjk, List.getElem?_take_of_lt (by omega)]
  ·rw [bothTo, bothTo, List.getElem?_append_right (by simp; omega), List.getElem?_append_right (by simp; omega)]
   simp only [List.getElem?_drop, List.length_take]
   congr 1
   omega
theorem bothTo_zero (R S : List Bool) : bothTo R S 0 = R := by simp [bothTo]
theorem bothTo_end {R S : List Bool} (h : R.length = 60) (h' : S.length = 60) : bothTo R S 60 = both R S := by
 have := both_length h h'
 rw [bothTo, List.take_of_length_le (by omega), List.drop_of_length_le (by omega), List.append_nil]
def hasAll (R : List Bool) (of : List Nat) : Bool := of.all fun n => R.getD n false
end Code
theorem alloc_size (w : World) (o : Obj) : (w.alloc o).heap.size = w.heap.size + 1 := by simp
theorem both_any (R S : List Bool) (hR : R.length = 60) (hS : S.length = 60) (w : World) :
  Calls Tryz.prog 204 #[.agg (setA R), .agg (setA S)] w fun e w' => e = .returned (.agg (setA (Code.both R S))) /\ Below w.heap.size w w' := by
 have HL := hide (setSize (Code.both R S) (Code.both_length hR hS))
 have HL' := hide (setSize' (Code.both R S) (Code.both_length hR hS))
 have HO := hide (setOne (Code.both R S))
 go_enter Tryz.func204, Tryz.ntmps204
 go_wp2
 generalize hw0 : ((w.alloc _).alloc _).alloc _ = w0
 have hr0 : setRow w0 w.heap.size R := by rw [<- hw0]; exact stay_alloc (stay_alloc (heap_alloc_new w _))
 have hr1 : setRow w0 (w.heap.size + 1) S := by
  have h := heap_alloc_new (w.alloc (.cells (setA R) 281)) (.cells (setA S) 281)
  rw [alloc_size] at h
  rw [<- hw0]; exact stay_alloc h
 have hr2 : setRow w0 (w.heap.size + 1 + 1) noNumber := by
  have h := heap_alloc_new ((w.alloc (.cells (setA R) 281)).alloc (.cells (setA S) 281)) (.cells (setA noNumber) 281)
  rw [alloc_size, alloc_size] at h
  rw [<- hw0]; exact h
 have hb0 : Below w.heap.size w w0 := by rw [<- hw0]; exact below_al (below_al (below_al (Below.refl _ _) _) _) _
 clear hw0
 go_loopw [6] (fun i wr => ∃ k : Nat, k <= 60 /\ i = .int .i64 k /\ setRow wr w.heap.size (Code.bothTo R S k) /\ setRow wr (w.heap.size + 1) S /\ setRow wr (w.heap.size + 1 + 1) noNumber /\ Below w.heap.size w wr) (fun i _ => 60 - (intOf i).toNat)
 case atStart => exact ⟨0, by omega, rfl, by rw [Code.bothTo_zero]; exact hr0, hr1, hr2, hb0⟩
 case round =>
  obtain ⟨k, hk, rfl, h1, h2, h3, hbw⟩ := hrel
  clear hr0 hr1 hr2 hb0
  by_cases hlt : k < 60
  ·have hc1 : wr.cell? ⟨w.heap.size, k, none⟩ = some (.bool (R[k]'(by omega))) := by
    have hkl : k < (Code.bothTo R S k).length := by rw [Code.bothTo_length hR hS]; exact hlt
    rw [h1.cell k hkl]
    have := Code.bothTo_get hR hS k hlt
    rw [List.getElem?_eq_getElem hkl] at this
    rw [Option.some.inj this]
   have hc2 := h2.cell k (by omega)
   have hf := blk_froz h1 k
   have hk' : (k : Int) < 60 := by omega
   have HS := hide (Code.bothTo_set hR hS k hlt)
   generalize R[k]'(by omega) = b1 at *
   generalize S[k]'(by omega) = b2 at *
   cases b1
   all_goals
    go_wp2
    refine ⟨⟨k + 1, by omega, by go_num, ?_, stay_set h2 (show w.heap.size + 1 ≠ w.heap.size by omega), stay_set h3 (show w.heap.size + 1 + 1 ≠ w.heap.size by omega), below_set hbw (by omega) _ _⟩, by simp [intOf]; omega⟩
    rw [<- HS.out]
    simpa using h1.set k _
  ·have hk60 : k = 60 := by omega
   subst hk60
   rw [Code.bothTo_end hR hS] at h1
   have hB := Code.both_length hR hS
   have HTH := hide h3.there
   generalize hBB : Code.both R S = B at *
   go_wp2_with (first | refine wpList_load_mid rfl 281 _ rfl w.heap.size 0 rfl (setL B) _ h1.range Tryz.underlying281 rfl HL.out ?_ | refine wpList_store_mid rfl 281 _ _ rfl (w.heap.size + 1 + 1) 0 (setA B) rfl rfl ?_ HL'.out HO.out ?_)
   ·have h := HTH.out
    rw [show noNumber.length = (setA B).size by simp [noNumber, setA, setL, hB]] at h
    exact h
   ·have hp : setRow (wr.setCells (w.heap.size + 1 + 1) 0 (setA B).toList) (w.heap.size + 1 + 1) B := h3.put B (by simp [noNumber, hB])
    refine bodyPost_ret (v := .agg (setA B)) (results_cell_row rfl _ _ (w.heap.size + 1 + 1) 281 (setA B) _ _ rfl hp Tryz.underlying281 rfl HL'.out) rfl ?_
    exact ⟨by rw [hBB], below_cells hbw (by omega) _ _⟩
theorem nats_open {w : World} {base : Nat} {v : Value} {l : List Nat} (h : w.ownsRow base 3 1 v l.length (nats l)) :
  ∃ p cap, v = .slice p l.length cap /\ ∀ k (h : k < l.length), ∃ g, p = some ⟨g, 0, none⟩ /\ w.cell? ⟨g, k, none⟩ = some (.int .i64 (l[k] : Nat)) := by
 obtain ⟨p, cap, hv⟩ := own_slice h
 refine ⟨p, cap, hv, fun k hk => ?_⟩
 obtain ⟨g, cap', hv', _, _, hc⟩ := row_open h (by omega)
 rw [hv] at hv'
 simp only [Value.slice.injEq] at hv'
 exact ⟨g, hv'.1, hc _ _ (nats_get l k hk)⟩
namespace Code
theorem hasAll_no {R : List Bool} {of : List Nat} {k : Nat} (hk : k < of.length) (h : R.getD of[k] false = false) : hasAll R of = false := by
 rw [hasAll, List.all_eq_false]
 exact ⟨of[k], List.getElem_mem hk, by simp at h; simp [h]⟩
theorem hasAll_yes {R : List Bool} {of : List Nat} (h : ∀ k (hk : k < of.length), R.getD of[k] false = true) : hasAll R of = true := by
 rw [hasAll, List.all_eq_true]
 intro x hx
 obtain ⟨k, hk, rfl⟩ := List.getElem_of_mem hx
 exact h k hk
end Code
theorem hasAll_any (R : List Bool) (hR : R.length = 60) (of : List Nat) (hof : ∀ x ∈ of, x < 60) (hlen : of.length <= 100000) (v : Value) (base : Nat) (w : World) (hv : w.ownsRow base 3 1 v of.length (nats of)) :
  Calls Tryz.prog 165 #[.agg (setA R), v] w fun e w' => e = .returned (.bool (Code.hasAll R of)) /\ Below w.heap.size w w' := by
 obtain ⟨p, cap, rfl, hval⟩ := nats_open hv
 have HV := hide hval
 clear hval hv
 go_enter Tryz.func165, Tryz.ntmps165
 go_wp2
 generalize hw0 : w.alloc _ = w0
 have hr0 : setRow w0 w.heap.size R := by rw [<- hw0]; exact heap_alloc_new w _
 have hb0 : Below w.heap.size w w0 := by rw [<- hw0]; exact below_al (Below.refl _ _) _
 clear hw0
 go_loop [9] (fun i => ∃ k : Nat, k <= of.length /\ i = .int .i64 k /\ Hid (∀ j (h : j < of.length), j < k -> R.getD of[j] false = true)) (fun i => of.length - (intOf i).toNat)
 case atStart => exact ⟨0, by omega, rfl, hide (fun j _ h => by omega)⟩
 case round =>
  obtain ⟨k, hk, rfl, hsp⟩ := hrel
  by_cases hlt : k < of.length
  ·obtain ⟨g, rfl, c0⟩ := HV.out k hlt
   have hlt60 := hof of[k] (List.getElem_mem hlt)
   have hg : g < w.heap.size := by
    cases hh : w.heap[g]? with
    | none => simp [World.cell?, hh] at c0
    | some o => exact lt_of_block hh
   have c0' : w0.cell? ⟨g, k, none⟩ = some (.int .i64 (of[k] : Nat)) := by rw [(bcell hb0).1 g k hg]; exact c0
   have hc := hr0.cell of[k] (by omega)
   have h60 : ((of[k] : Nat) : Int) < 60 := by omega
   have hget : R.getD of[k] false = R[of[k]]'(by omega) := by rw [List.getD_eq_getElem?_getD, List.getElem?_eq_getElem (by omega)]; rfl
   cases hb : R[of[k]]'(by omega) with
   | false =>
    have HF := hide (Code.hasAll_no hlt (hget.trans hb))
    rw [hb] at hc
    clear hb hget hsp c0
    go_wp2
    go_ret
    exact ⟨ret_bool HF.out.symm, hb0⟩
   | true =>
    have HF : Hid (∀ j (h : j < of.length), j < k + 1 -> R.getD of[j] false = true) := hide fun j h hj => by
     rcases Nat.lt_succ_iff_lt_or_eq.1 hj with h' | h'
     ·exact hsp.out j h h'
     ·subst h'; exact hget.trans hb
    rw [hb] at hc
    clear hb hget hsp c0
    go_wp2
    exact ⟨⟨k + 1, by omega, by go_num, HF⟩, by simp [intOf]; omega⟩
  ·have HF := hide (Code.hasAll_yes (R := R) (of := of) (fun j h => hsp.out j h (by omega)))
   go_wp2
   go_ret
   exact ⟨ret_bool HF.out.symm, hb0⟩
end Go.Proofs.YtedkjanogjglkaaGreatDoor
