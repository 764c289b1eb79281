/-
  Parts of the proof: CScan4, CRead, CRead2, COps, CApply, CThing.
-/
import Derived.Test.YtedkjanogjglkaaGreatDoorP01
import Derived.Deep.RegionHeld3
import Derived.Deep.RegionWith
set_option maxRecDepth 100000
set_option maxHeartbeats 2000000
namespace Go.Proofs.YtedkjanogjglkaaGreatDoor
open Go.RowKit
namespace Code
theorem signedOf_zero {p : Nat × List UInt8} (h : p.1 = 0) : signedOf true p = none := by simp [signedOf, h]
theorem signedOf_minus {n : Nat} {t : List UInt8} (h : 0 < n) (h' : n <= 2147483648) : signedOf true (n, t) = some (-(n : Int), t) := by
 have h1 : ¬ n = 0 := by omega
 have h2 : ¬ (-(n : Int) < -2147483648 \/ 2147483647 < -(n : Int)) := by omega
 simp only [signedOf, h1, and_false, if_false, if_true, if_neg h2]
theorem signedOf_minus_big {n : Nat} {t : List UInt8} (h' : 2147483648 < n) : signedOf true (n, t) = none := by
 have h1 : ¬ n = 0 := by omega
 have h2 : (-(n : Int) < -2147483648 \/ 2147483647 < -(n : Int)) := by omega
 simp only [signedOf, h1, and_false, if_false, if_true, if_pos h2]
theorem signedOf_plus {n : Nat} {t : List UInt8} (h' : n <= 2147483647) : signedOf false (n, t) = some ((n : Int), t) := by
 have h2 : ¬ ((n : Int) < -2147483648 \/ 2147483647 < (n : Int)) := by omega
 simp only [signedOf, Bool.false_eq_true, false_and, if_false, if_neg h2]
theorem signedOf_plus_big {n : Nat} {t : List UInt8} (h' : 2147483647 < n) : signedOf false (n, t) = none := by
 have h2 : ((n : Int) < -2147483648 \/ 2147483647 < (n : Int)) := by omega
 simp only [signedOf, Bool.false_eq_true, false_and, if_false, if_pos h2]
end Code
theorem signed_any (rb : Nat) (T : TypeId) (s : List UInt8) (l why : Int) (X : List Value) (w : World) (hr : Rd w rb T s l why X) (hs : s.length <= 3000) :
  Calls Tryz.prog 193 #[.pointer (some ⟨rb, 0, none⟩)] w fun e w' =>
   (∃ n t, Code.signed s = some (n, t) /\ e = .returned (.int .i32 n) /\ Rd w' rb T t l why X /\ w.grownBy w' (some rb)) \/ (Code.signed s = none /\ Fails w rb why e w') := by
 cases hc : Code.cut [45] s with
 | none =>
  have HC := hide hc
  have HS : Hid (Code.signed s = (Code.number s).bind (Code.signedOf false)) := by simp [Hid, Code.signed, hc]
  clear hc
  go_enter Tryz.func193, Tryz.ntmps193
  go_wp2_with fail
  refine (skip_any rb T s [45] l why X w hr hs (by simp)).mono ?_
  rw [HC.out]
  rintro e w1 ⟨rfl, hr1, hg1⟩
  go_wp2_with fail
  refine (number_any rb T s l why X w1 hr1 hs).mono ?_
  rintro e w2 (⟨n, t, hn, rfl, hr2, hg2⟩ | ⟨hn, ⟨l', rfl⟩, hg2⟩)
  ·have hb := (Code.number_some hn).1
   have HN := hide hn
   clear hn
   by_cases hbig : (2147483647 : Int) < (n : Int)
   ·have HB : Hid (Code.signed s = none) := by rw [HS.out, HN.out]; exact Code.signedOf_plus_big (by omega)
    go_wp2_with fail
    refine (fail_any rb T _ l why X w2 hr2).mono ?_
    rintro e w3 ⟨⟨l', rfl⟩, hg3⟩
    go_wp2
    exact ⟨rfl, Or.inr ⟨HB.out, ⟨l', rfl⟩, grown_trans hg1 (grown_trans hg2 hg3)⟩⟩
   ·have HB : Hid (Code.signed s = some ((n : Int), t)) := by rw [HS.out, HN.out]; exact Code.signedOf_plus (by omega)
    go_wp2
    go_ret
    exact Or.inl ⟨n, t, HB.out, rfl, hr2, grown_trans hg1 hg2⟩
  ·go_wp2
   exact ⟨rfl, Or.inr ⟨by rw [HS.out, hn]; rfl, ⟨l', rfl⟩, grown_trans hg1 hg2⟩⟩
 | some r =>
  have HC := hide hc
  have HS : Hid (Code.signed s = (Code.number r).bind (Code.signedOf true)) := by simp [Hid, Code.signed, hc]
  have hrl : r.length <= 3000 := by rw [Code.cut_some hc] at hs; simp at hs; omega
  clear hc
  go_enter Tryz.func193, Tryz.ntmps193
  go_wp2_with fail
  refine (skip_any rb T s [45] l why X w hr hs (by simp)).mono ?_
  rw [HC.out]
  rintro e w1 ⟨rfl, hr1, hg1⟩
  go_wp2_with fail
  refine (number_any rb T r l why X w1 hr1 hrl).mono ?_
  rintro e w2 (⟨n, t, hn, rfl, hr2, hg2⟩ | ⟨hn, ⟨l', rfl⟩, hg2⟩)
  ·have hb := (Code.number_some hn).1
   have HN := hide hn
   clear hn
   by_cases hz : n = 0
   ·have HB : Hid (Code.signed s = none) := by rw [HS.out, HN.out]; exact Code.signedOf_zero hz
    have hz' : ((n : Int) == 0) = true := by simp [hz]
    clear hz
    go_wp2_with fail
    refine (fail_any rb T _ l why X w2 hr2).mono ?_
    rintro e w3 ⟨⟨l', rfl⟩, hg3⟩
    go_wp2
    exact ⟨rfl, Or.inr ⟨HB.out, ⟨l', rfl⟩, grown_trans hg1 (grown_trans hg2 hg3)⟩⟩
   ·have hz' : ((n : Int) == 0) = false := beq_eq_false_iff_ne.2 (by omega)
    by_cases hbig : 2147483648 < n
    ·have HB : Hid (Code.signed s = none) := by rw [HS.out, HN.out]; exact Code.signedOf_minus_big hbig
     have hq : -(n : Int) < -2147483648 := by omega
     clear hz hbig
     go_wp2_with fail
     refine (fail_any rb T _ l why X w2 hr2).mono ?_
     rintro e w3 ⟨⟨l', rfl⟩, hg3⟩
     go_wp2
     exact ⟨rfl, Or.inr ⟨HB.out, ⟨l', rfl⟩, grown_trans hg1 (grown_trans hg2 hg3)⟩⟩
    ·have HB : Hid (Code.signed s = some (-(n : Int), t)) := by rw [HS.out, HN.out]; exact Code.signedOf_minus (by omega) (by omega)
     have hq : ¬ -(n : Int) < -2147483648 := by omega
     have hq' : ¬ 2147483647 < -(n : Int) := by omega
     clear hz
     go_wp2
     go_ret
     exact Or.inl ⟨_, t, HB.out, rfl, hr2, grown_trans hg1 hg2⟩
  ·go_wp2
   exact ⟨rfl, Or.inr ⟨by rw [HS.out, hn]; rfl, ⟨l', rfl⟩, grown_trans hg1 hg2⟩⟩
namespace Code
theorem cut_length {p s r : List UInt8} (h : cut p s = some r) : r.length + p.length = s.length := by
 rw [cut_some h]; simp; omega
theorem number_length {s t : List UInt8} {n : Nat} (h : number s = some (n, t)) : t.length < s.length := (number_some h).2
theorem below_some {lim : Int} {s t : List UInt8} {n : Nat} (h : below lim s = some (n, t)) : (n : Int) < lim /\ t.length < s.length := by
 unfold below at h
 cases hn : number s with
 | none => rw [hn] at h; cases h
 | some p =>
  rw [hn] at h
  simp only [Option.bind_some] at h
  split at h
  ·rename_i hl
   cases h
   exact ⟨hl, number_length hn⟩
  ·cases h
theorem value_some {s t : List UInt8} {n : Nat} (h : value s = some (n, t)) : n < 60 /\ t.length < s.length := by
 unfold value at h
 cases hn : cut [118] s with
 | none => rw [hn] at h; cases h
 | some r =>
  rw [hn] at h
  have h1 := below_some (show below 60 r = some (n, t) from h)
  have h2 := cut_length hn
  simp at h2
  omega
theorem PhiOf.det {s : List UInt8} {o o' : Option (List Nat × List UInt8)} (h : PhiOf s o) (h' : PhiOf s o') : o = o' := by
 induction h generalizing o' with
 | done h1 => cases h' with
  | done _ => rfl
  | bad g1 _ => rw [h1] at g1; cases g1
  | more g1 _ _ => rw [h1] at g1; cases g1
 | bad h1 h2 => cases h' with
  | done g1 => rw [h1] at g1; cases g1
  | bad _ _ => rfl
  | more g1 g2 _ => rw [h1] at g1; cases g1; rw [h2] at g2; cases g2
 | more h1 h2 _ ih => cases h' with
  | done g1 => rw [h1] at g1; cases g1
  | bad g1 g2 => rw [h1] at g1; cases g1; rw [h2] at g2; cases g2
  | more g1 g2 g3 => rw [h1] at g1; cases g1; rw [h2] at g2; cases g2; rw [ih g3]
end Code
def RdF (w : World) (rb : Nat) (s : List UInt8) (l : Int) (a : Nat) : Prop := Rd w rb 142 s l 1 [.int .i64 a]
theorem lineEnd_any (rb : Nat) (s : List UInt8) (l : Int) (a : Nat) (w : World) (hr : RdF w rb s l a) (hs : s.length <= 3000) (hl : 0 <= l /\ l + s.length <= 100000) :
  Calls Tryz.prog 117 #[.pointer (some ⟨rb, 0, none⟩)] w fun e w' =>
   (∃ r, Code.cut [10] s = some r /\ e = .returned (.tuple #[]) /\ RdF w' rb r (l + 1) a /\ w.grownBy w' (some rb)) \/ (Code.cut [10] s = none /\ Fails w rb 1 e w') := by
 obtain ⟨hl0, hl1⟩ := hl
 go_enter Tryz.func117, Tryz.ntmps117
 go_wp2_with fail
 refine (take_any rb _ s [10] l 1 _ w hr hs (by simp)).mono ?_
 rintro e w1 (⟨r, hc, rfl, hr1, hg1⟩ | ⟨hc, ⟨l', rfl⟩, hg1⟩)
 ·have c1 := hr1.c1
  have f1 := hr1.fz 1
  have HC := hide hc
  clear hc
  go_wp2
  go_end0
  exact Or.inl ⟨r, HC.out, rfl, hr1.set1 _, grown_trans hg1 (grown_set _ _ _ _)⟩
 ·go_wp2
  exact ⟨rfl, Or.inr ⟨hc, ⟨l', rfl⟩, hg1⟩⟩
theorem value_any (rb : Nat) (s : List UInt8) (l : Int) (a : Nat) (w : World) (hr : RdF w rb s l a) (hs : s.length <= 3000) :
  Calls Tryz.prog 198 #[.pointer (some ⟨rb, 0, none⟩)] w fun e w' =>
   (∃ n t, Code.value s = some (n, t) /\ e = .returned (.int .i64 (n : Nat)) /\ RdF w' rb t l a /\ w.grownBy w' (some rb)) \/ (Code.value s = none /\ Fails w rb 1 e w') := by
 go_enter Tryz.func198, Tryz.ntmps198
 go_wp2_with fail
 refine (take_any rb _ s [118] l 1 _ w hr hs (by simp)).mono ?_
 rintro e w1 (⟨r, hc, rfl, hr1, hg1⟩ | ⟨hc, ⟨l', rfl⟩, hg1⟩)
 ·have HV : Hid (Code.value s = Code.below 60 r) := by simp [Hid, Code.value, hc]
  have hrl := Code.cut_length hc
  clear hc
  go_wp2_with fail
  refine (below_any rb _ r l 1 60 _ w1 hr1 (by omega)).mono ?_
  rintro e w2 (⟨n, t, hn, rfl, hr2, hg2⟩ | ⟨hn, ⟨l', rfl⟩, hg2⟩)
  ·have HN := hide hn
   clear hn
   go_wp2
   go_ret
   exact Or.inl ⟨n, t, HV.out.trans HN.out, rfl, hr2, grown_trans hg1 hg2⟩
  ·go_wp2
   exact ⟨rfl, Or.inr ⟨HV.out.trans hn, ⟨l', rfl⟩, grown_trans hg1 hg2⟩⟩
 ·go_wp2
  exact ⟨rfl, Or.inr ⟨by simp [Code.value, hc], ⟨l', rfl⟩, hg1⟩⟩
theorem target_any (rb : Nat) (s : List UInt8) (l : Int) (a : Nat) (w : World) (hr : RdF w rb s l a) (hs : s.length <= 3000) :
  Calls Tryz.prog 200 #[.pointer (some ⟨rb, 0, none⟩)] w fun e w' =>
   (∃ n t, Code.target s = some (n, t) /\ e = .returned (.int .i64 (n : Nat)) /\ RdF w' rb t l a /\ w.grownBy w' (some rb)) \/ (Code.target s = none /\ Fails w rb 1 e w') := by
 go_enter Tryz.func200, Tryz.ntmps200
 go_wp2_with fail
 refine (take_any rb _ s [98] l 1 _ w hr hs (by simp)).mono ?_
 rintro e w1 (⟨r, hc, rfl, hr1, hg1⟩ | ⟨hc, ⟨l', rfl⟩, hg1⟩)
 ·have HV : Hid (Code.target s = (Code.number r).map fun p => (min p.1 8, p.2)) := by simp [Hid, Code.target, hc]
  have hrl := Code.cut_length hc
  clear hc
  go_wp2_with fail
  refine (number_any rb _ r l 1 _ w1 hr1 (by omega)).mono ?_
  rintro e w2 (⟨n, t, hn, rfl, hr2, hg2⟩ | ⟨hn, ⟨l', rfl⟩, hg2⟩)
  ·have hb := (Code.number_some hn).1
   have HN : Hid (Code.target s = some (min n 8, t)) := by rw [HV.out, hn]; exact rfl
   clear hn
   go_wp2
   all_goals
    go_ret
    exact Or.inl ⟨min n 8, t, HN.out, ret_int (by omega), hr2, grown_trans hg1 hg2⟩
  ·go_wp2
   exact ⟨rfl, Or.inr ⟨by rw [HV.out, hn]; rfl, ⟨l', rfl⟩, grown_trans hg1 hg2⟩⟩
 ·go_wp2
  exact ⟨rfl, Or.inr ⟨by simp [Code.target, hc], ⟨l', rfl⟩, hg1⟩⟩
def nats (l : List Nat) : List Value := l.map fun n => .int .i64 (n : Nat)
theorem nats_snoc (l : List Nat) (n : Nat) : nats (l ++ [n]) = nats l ++ [.int .i64 (n : Nat)] := by simp [nats]
theorem nats_get (l : List Nat) (j : Nat) (h : j < l.length) : (nats l)[j]? = some (.int .i64 (l[j] : Nat)) := by simp [nats, h]
def restLen (w : World) (rb : Nat) : Nat := match w.cell? ⟨rb, 0, none⟩ with
 | some (.string b) => b.size
 | _ => 0
theorem restLen_of {w : World} {rb : Nat} {T : TypeId} {s : List UInt8} {l why : Int} {X : List Value} (h : Rd w rb T s l why X) : restLen w rb = s.length := by
 simp only [restLen, h.c0, bs_size]
theorem phiValues_any (rb : Nat) (s : List UInt8) (l : Int) (a : Nat) (w : World) (hr : RdF w rb s l a) (hs : s.length <= 3000) :
  Calls Tryz.prog 222 #[.pointer (some ⟨rb, 0, none⟩)] w fun e w' =>
   (∃ of t v, Code.PhiOf s (some (of, t)) /\ e = .returned v /\ w'.ownsRow w.heap.size 3 1 v of.length (nats of) /\ RdF w' rb t l a /\ t.length <= s.length /\ w.grownBy w' (some rb)) \/ (Code.PhiOf s none /\ Fails w rb 1 e w') := by
 obtain ⟨i0, hi, hz0, hz1, hz2⟩ := info_parts infoInt
 go_enter Tryz.func222, Tryz.ntmps222
 go_wp2
 go_loopw [3] (fun v wr => ∃ (of : List Nat) (t : List UInt8), of.length + t.length <= s.length /\ wr.ownsRow w.heap.size 3 1 v of.length (nats of) /\ RdF wr rb t l a /\ w.grownBy wr (some rb) /\
   Hid (∀ o, Code.PhiOf t o -> Code.PhiOf s (o.map fun p => (of ++ p.1, p.2))))
  (fun _ wr => restLen wr rb)
 case atStart => exact ⟨[], s, by simp, World.ownsRow_nil _ _ _ _, hr, grown_refl _ _, hide (by rintro (_ | ⟨x, y⟩) h <;> exact h)⟩
 case round =>
  obtain ⟨of, t, hlen, hown, hrd, hgr, hsp⟩ := hrel
  have hm0 := hide (restLen_of hrd)
  cases hc : Code.cut [32] t with
  | none =>
   have HC := hide hc
   have HS : Hid (Code.PhiOf s (some (of, t))) := by
    have := hsp.out _ (Code.PhiOf.done hc)
    simpa [Hid] using this
   clear hc
   go_wp2_with fail
   refine (skip_any rb _ t [32] l 1 _ wr hrd (by omega) (by simp)).mono ?_
   rw [HC.out]
   rintro e w1 ⟨rfl, hr1, hg1⟩
   go_wp2
   go_ret
   exact Or.inl ⟨of, t, _, HS.out, rfl, own_kept hrd hg1 hown (by decide), hr1, by omega, grown_trans hgr hg1⟩
  | some r =>
   have HC := hide hc
   have hrl := Code.cut_length hc
   clear hc
   simp only [List.length_cons, List.length_nil] at hrl
   go_wp2_with fail
   refine (skip_any rb _ t [32] l 1 _ wr hrd (by omega) (by simp)).mono ?_
   rw [HC.out]
   rintro e w1 ⟨rfl, hr1, hg1⟩
   go_wp2_with fail
   refine (value_any rb r l a w1 hr1 (by omega)).mono ?_
   have hown1 := own_kept hrd hg1 hown (by decide)
   rintro e w2 (⟨n, t2, hn, rfl, hr2, hg2⟩ | ⟨hn, ⟨l', rfl⟩, hg2⟩)
   ·have hown2 := own_kept hr1 hg2 hown1 (by decide)
    have hz := (grown_trans hgr (grown_trans hg1 hg2)).size
    have hvl := Code.value_some hn
    have HS : Hid (∀ o, Code.PhiOf t2 o -> Code.PhiOf s (o.map fun p => (of ++ [n] ++ p.1, p.2))) := hide fun o ho => by
     have := hsp.out _ (Code.PhiOf.more HC.out hn ho)
     cases o with
     | none => exact this
     | some q => simpa using this
    clear hsp hn
    go_wp2_with (first | (at_builtin; refine wpList_append_own _ rfl _ _ 31 rfl w.heap.size 3 i0 (.int .i64 0) 1 8 Tryz.underlying31 hi hz0 hz1 hz2 rfl (by decide) _ _ _ rfl (hown2.alloc _) ⟨_, 0, none⟩ 1 1 [.int .i64 n] rfl rfl (cell_one_new _ _ _) (fun x hx => by simp at hx; subst hx; rfl) (by unfold maxLen; omega) (by omega) (by simp; omega) ?_; intro v' w3 hown' hgrow3 hnil3))
    have hr3 : RdF w3 rb t2 l a := stay_grown (hown2.alloc _) hgrow3 (stay_alloc hr2) (by decide)
    refine ⟨⟨of ++ [n], t2, by simp; omega, ?_, hr3, grown_app (grown_trans hgr (grown_trans hg1 hg2)) hgrow3 (fun q hq => (hown2.lt q hq).1), HS⟩, ?_⟩
    ·rw [nats_snoc, List.length_append]; exact hown'
    ·rw [hm0.out, restLen_of hr3]; omega
   ·have HS : Hid (Code.PhiOf s none) := hide (hsp.out _ (Code.PhiOf.bad HC.out hn))
    go_wp2
    exact ⟨rfl, Or.inr ⟨HS.out, ⟨l', rfl⟩, grown_trans hgr (grown_trans hg1 hg2)⟩⟩
namespace Code
theorem target_some {s t : List UInt8} {n : Nat} (h : target s = some (n, t)) : n <= 8 /\ t.length < s.length := by
 unfold target at h
 cases hn : cut [98] s with
 | none => rw [hn] at h; cases h
 | some r =>
  rw [hn] at h
  simp only [Option.bind_some] at h
  cases hm : number r with
  | none => rw [hm] at h; cases h
  | some p =>
   rw [hm] at h
   simp only [Option.map_some, Option.some.injEq, Prod.mk.injEq] at h
   have h2 := cut_length hn
   have h3 := number_length (show number r = some (p.1, p.2) from hm)
   simp at h2
   rw [<- h.1, <- h.2]
   omega
end Code
theorem Rd.lt {w : World} {rb : Nat} {T : TypeId} {s : List UInt8} {l why : Int} {X : List Value} (h : Rd w rb T s l why X) : rb < w.heap.size := lt_of_block h
theorem ifLast_any (rb : Nat) (s : List UInt8) (l : Int) (a : Nat) (w : World) (hr : RdF w rb s l a) (hs : s.length <= 3000) :
  Calls Tryz.prog 201 #[.pointer (some ⟨rb, 0, none⟩)] w fun e w' =>
   (∃ v x y t, Code.ifLast s = some (.ifs v x y, t) /\ e = .returned (.agg #[.int .i64 (v : Nat), .int .i64 (x : Nat), .int .i64 (y : Nat)]) /\ RdF w' rb t l a /\ w.grownBy w' (some rb)) \/ (Code.ifLast s = none /\ Fails w rb 1 e w') := by
 go_enter Tryz.func201, Tryz.ntmps201
 go_wp2_with fail
 have hrb := hr.lt
 generalize hw0 : w.alloc _ = w0
 have hg0 : w.grownBy w0 (some rb) := by rw [<- hw0]; exact grown_alloc _ _ _
 have hr0 : RdF w0 rb s l a := by rw [<- hw0]; exact stay_alloc hr
 have HW0 := hide hw0
 clear hw0
 refine (take_any rb _ s [32] l 1 _ w0 hr0 hs (by simp)).mono ?_
 rintro e w1 (⟨r1, hc, rfl, hr1, hg1⟩ | ⟨hc, ⟨l', rfl⟩, hg1⟩)
 case inr =>
  go_wp2
  exact ⟨rfl, Or.inr ⟨by simp [Code.ifLast, hc], ⟨l', rfl⟩, grown_trans hg0 hg1⟩⟩
 have H1 : Hid (Code.ifLast s = (Code.value r1).bind fun p => (Code.cut [32] p.2).bind fun r => (Code.target r).bind fun q => (Code.cut [32] q.2).bind fun r => (Code.target r).map fun z => (.ifs p.1 q.1 z.1, z.2)) := by
  simp only [Hid, Code.ifLast, hc, Option.bind_some]
 have l1 := Code.cut_length hc
 clear hc
 go_wp2_with fail
 refine (value_any rb r1 l a w1 hr1 (by omega)).mono ?_
 rintro e w2 (⟨v, r2, hc, rfl, hr2, hg2⟩ | ⟨hc, ⟨l', rfl⟩, hg2⟩)
 case inr =>
  go_wp2
  exact ⟨rfl, Or.inr ⟨by rw [H1.out, hc]; rfl, ⟨l', rfl⟩, grown_trans hg0 (grown_trans hg1 hg2)⟩⟩
 have H2 : Hid (Code.ifLast s = (Code.cut [32] r2).bind fun r => (Code.target r).bind fun q => (Code.cut [32] q.2).bind fun r => (Code.target r).map fun z => (.ifs v q.1 z.1, z.2)) := by
  rw [H1.out, hc]; exact rfl
 have l2 := (Code.value_some hc).2
 clear hc H1
 go_wp2_with fail
 refine (take_any rb _ r2 [32] l 1 _ w2 hr2 (by omega) (by simp)).mono ?_
 rintro e w3 (⟨r3, hc, rfl, hr3, hg3⟩ | ⟨hc, ⟨l', rfl⟩, hg3⟩)
 case inr =>
  go_wp2
  exact ⟨rfl, Or.inr ⟨by rw [H2.out, hc]; rfl, ⟨l', rfl⟩, grown_trans hg0 (grown_trans hg1 (grown_trans hg2 hg3))⟩⟩
 have H3 : Hid (Code.ifLast s = (Code.target r3).bind fun q => (Code.cut [32] q.2).bind fun r => (Code.target r).map fun z => (.ifs v q.1 z.1, z.2)) := by
  rw [H2.out, hc]; exact rfl
 have l3 := Code.cut_length hc
 clear hc H2
 have hg3' := grown_trans hg0 (grown_trans hg1 (grown_trans hg2 hg3))
 have hgn3 := grown_trans hg1 (grown_trans hg2 hg3)
 clear hg1 hg2 hg3
 go_wp2_with fail
 refine (target_any rb r3 l a w3 hr3 (by omega)).mono ?_
 rintro e w4 (⟨x, r4, hc, rfl, hr4, hg4⟩ | ⟨hc, ⟨l', rfl⟩, hg4⟩)
 case inr =>
  go_wp2
  exact ⟨rfl, Or.inr ⟨by rw [H3.out, hc]; rfl, ⟨l', rfl⟩, grown_trans hg3' hg4⟩⟩
 have H4 : Hid (Code.ifLast s = (Code.cut [32] r4).bind fun r => (Code.target r).map fun z => (.ifs v x z.1, z.2)) := by
  rw [H3.out, hc]; exact rfl
 have l4 := (Code.target_some hc).2
 clear hc H3
 go_wp2_with fail
 refine (take_any rb _ r4 [32] l 1 _ w4 hr4 (by omega) (by simp)).mono ?_
 rintro e w5 (⟨r5, hc, rfl, hr5, hg5⟩ | ⟨hc, ⟨l', rfl⟩, hg5⟩)
 case inr =>
  go_wp2
  exact ⟨rfl, Or.inr ⟨by rw [H4.out, hc]; rfl, ⟨l', rfl⟩, grown_trans hg3' (grown_trans hg4 hg5)⟩⟩
 have H5 : Hid (Code.ifLast s = (Code.target r5).map fun z => (.ifs v x z.1, z.2)) := by
  rw [H4.out, hc]; exact rfl
 have l5 := Code.cut_length hc
 clear hc H4
 go_wp2_with fail
 refine (target_any rb r5 l a w5 hr5 (by omega)).mono ?_
 rintro e w6 (⟨y, r6, hc, rfl, hr6, hg6⟩ | ⟨hc, ⟨l', rfl⟩, hg6⟩)
 case inr =>
  go_wp2
  exact ⟨rfl, Or.inr ⟨by rw [H5.out, hc]; rfl, ⟨l', rfl⟩, grown_trans hg3' (grown_trans hg4 (grown_trans hg5 hg6))⟩⟩
 have H6 : Hid (Code.ifLast s = some (.ifs v x y, r6)) := by
  rw [H5.out, hc]; exact rfl
 clear hc H5
 have hgn : w0.grownBy w6 (some rb) := grown_trans hgn3 (grown_trans hg4 (grown_trans hg5 hg6))
 have hgw := grown_trans hg0 hgn
 have hnew := HW0.out ▸ hgn
 have hb := new_kept hnew hrb
 have hc0 := blk_cell hb 0 _ rfl
 have hc1 := blk_cell hb 1 _ rfl
 have hc2 := blk_cell hb 2 _ rfl
 have hf0 := blk_froz hb 0
 have hf1 := blk_froz hb 1
 have hf2 := blk_froz hb 2
 go_wp2
 refine bodyPost_ret (v := .agg #[.int .i64 (v : Nat), .int .i64 (x : Nat), .int .i64 (y : Nat)]) (by simp [results, Tryz.results201, go_sem, hc0, hc1, hc2]) rfl ?_
 have hne : rb ≠ w.heap.size := by omega
 exact Or.inl ⟨v, x, y, r6, H6.out, rfl, stay_set (stay_set (stay_set hr6 hne) hne) hne, grown_new (grown_new (grown_new hgw (Nat.le_refl _) _ _) (Nat.le_refl _) _ _) (Nat.le_refl _) _ _⟩
def lastV : Code.Last -> Value
 | .ret v => .iface 240 (.agg #[.int .i64 (v : Nat)])
 | .jump to => .iface 242 (.agg #[.int .i64 (to : Nat)])
 | .ifs v x y => .iface 244 (.agg #[.int .i64 (v : Nat), .int .i64 (x : Nat), .int .i64 (y : Nat)])
theorem word_no {s q : List UInt8} (h : Code.word s ≠ q) : ((bs (Code.word s)).toList == q) = false := toList_no (by rw [bl_bs]; exact h)
theorem word_yes {s q : List UInt8} (h : Code.word s = q) : ((bs (Code.word s)).toList == q) = true := toList_yes (by rw [bl_bs]; exact h)
theorem last_any (rb : Nat) (s : List UInt8) (l : Int) (a : Nat) (w : World) (hr : RdF w rb s l a) (hs : s.length <= 3000) :
  Calls Tryz.prog 160 #[.pointer (some ⟨rb, 0, none⟩)] w fun e w' =>
   (∃ z t, Code.last s = some (z, t) /\ e = .returned (lastV z) /\ RdF w' rb t l a /\ w.grownBy w' (some rb)) \/ (Code.last s = none /\ Fails w rb 1 e w') := by
 have hlb : (Code.behind s).length <= 3000 := Nat.le_trans (Code.rest_length _ _ _) hs
 by_cases h1 : Code.word s = Code.sRet
 ·have HL : Hid (Code.last s = (Code.cut [32] (Code.behind s)).bind fun r => (Code.value r).map fun p => (.ret p.1, p.2)) := by simp only [Hid, Code.last, if_pos h1]
  have q1 := word_yes h1
  unfold Code.sRet at q1
  clear h1
  go_enter Tryz.func160, Tryz.ntmps160
  go_wp2_with fail
  refine (letters_any rb _ s l 1 _ w hr hs).mono ?_
  rintro e w1 ⟨rfl, hr1, hg1⟩
  generalize Code.word s = ww at *
  generalize Code.behind s = bb at *
  go_wp2_with fail
  refine (take_any rb _ bb [32] l 1 _ w1 hr1 hlb (by simp)).mono ?_
  rintro e w2 (⟨r2, hc, rfl, hr2, hg2⟩ | ⟨hc, ⟨l', rfl⟩, hg2⟩)
  case inr =>
   go_wp2
   exact ⟨rfl, Or.inr ⟨by rw [HL.out, hc]; rfl, ⟨l', rfl⟩, grown_trans hg1 hg2⟩⟩
  have H2 : Hid (Code.last s = (Code.value r2).map fun p => (.ret p.1, p.2)) := by rw [HL.out, hc]; exact rfl
  have l2 := Code.cut_length hc
  clear hc HL
  go_wp2_with fail
  refine (value_any rb r2 l a w2 hr2 (by omega)).mono ?_
  rintro e w3 (⟨v, r3, hc, rfl, hr3, hg3⟩ | ⟨hc, ⟨l', rfl⟩, hg3⟩)
  case inr =>
   go_wp2
   exact ⟨rfl, Or.inr ⟨by rw [H2.out, hc]; rfl, ⟨l', rfl⟩, grown_trans hg1 (grown_trans hg2 hg3)⟩⟩
  have H3 : Hid (Code.last s = some (.ret v, r3)) := by rw [H2.out, hc]; exact rfl
  clear hc H2
  go_wp2
  go_ret
  exact Or.inl ⟨.ret v, r3, H3.out, rfl, hr3, grown_trans hg1 (grown_trans hg2 hg3)⟩
 by_cases h2 : Code.word s = Code.sJump
 ·have HL : Hid (Code.last s = (Code.cut [32] (Code.behind s)).bind fun r => (Code.target r).map fun p => (.jump p.1, p.2)) := by simp only [Hid, Code.last, if_neg h1, if_pos h2]
  have q1 := word_no h1
  have q2 := word_yes h2
  unfold Code.sRet at q1
  unfold Code.sJump at q2
  clear h1 h2
  go_enter Tryz.func160, Tryz.ntmps160
  go_wp2_with fail
  refine (letters_any rb _ s l 1 _ w hr hs).mono ?_
  rintro e w1 ⟨rfl, hr1, hg1⟩
  generalize Code.word s = ww at *
  generalize Code.behind s = bb at *
  go_wp2_with fail
  refine (take_any rb _ bb [32] l 1 _ w1 hr1 hlb (by simp)).mono ?_
  rintro e w2 (⟨r2, hc, rfl, hr2, hg2⟩ | ⟨hc, ⟨l', rfl⟩, hg2⟩)
  case inr =>
   go_wp2
   exact ⟨rfl, Or.inr ⟨by rw [HL.out, hc]; rfl, ⟨l', rfl⟩, grown_trans hg1 hg2⟩⟩
  have H2 : Hid (Code.last s = (Code.target r2).map fun p => (.jump p.1, p.2)) := by rw [HL.out, hc]; exact rfl
  have l2 := Code.cut_length hc
  clear hc HL
  go_wp2_with fail
  refine (target_any rb r2 l a w2 hr2 (by omega)).mono ?_
  rintro e w3 (⟨v, r3, hc, rfl, hr3, hg3⟩ | ⟨hc, ⟨l', rfl⟩, hg3⟩)
  case inr =>
   go_wp2
   exact ⟨rfl, Or.inr ⟨by rw [H2.out, hc]; rfl, ⟨l', rfl⟩, grown_trans hg1 (grown_trans hg2 hg3)⟩⟩
  have H3 : Hid (Code.last s = some (.jump v, r3)) := by rw [H2.out, hc]; exact rfl
  clear hc H2
  go_wp2
  go_ret
  exact Or.inl ⟨.jump v, r3, H3.out, rfl, hr3, grown_trans hg1 (grown_trans hg2 hg3)⟩
 by_cases h3 : Code.word s = Code.sIf
 ·have HL : Hid (Code.last s = Code.ifLast (Code.behind s)) := by simp only [Hid, Code.last, if_neg h1, if_neg h2, if_pos h3]
  have q1 := word_no h1
  have q2 := word_no h2
  have q3 := word_yes h3
  unfold Code.sRet at q1
  unfold Code.sJump at q2
  unfold Code.sIf at q3
  clear h1 h2 h3
  go_enter Tryz.func160, Tryz.ntmps160
  go_wp2_with fail
  refine (letters_any rb _ s l 1 _ w hr hs).mono ?_
  rintro e w1 ⟨rfl, hr1, hg1⟩
  generalize Code.word s = ww at *
  generalize Code.behind s = bb at *
  go_wp2_with fail
  refine (ifLast_any rb bb l a w1 hr1 hlb).mono ?_
  rintro e w2 (⟨v, x, y, r2, hc, rfl, hr2, hg2⟩ | ⟨hc, ⟨l', rfl⟩, hg2⟩)
  case inr =>
   go_wp2
   exact ⟨rfl, Or.inr ⟨by rw [HL.out, hc], ⟨l', rfl⟩, grown_trans hg1 hg2⟩⟩
  have H3 : Hid (Code.last s = some (.ifs v x y, r2)) := by rw [HL.out, hc]; exact rfl
  clear hc HL
  go_wp2
  go_ret
  exact Or.inl ⟨.ifs v x y, r2, H3.out, rfl, hr2, grown_trans hg1 hg2⟩
 ·have HL : Hid (Code.last s = none) := by simp only [Hid, Code.last, if_neg h1, if_neg h2, if_neg h3]
  have q1 := word_no h1
  have q2 := word_no h2
  have q3 := word_no h3
  unfold Code.sRet at q1
  unfold Code.sJump at q2
  unfold Code.sIf at q3
  clear h1 h2 h3
  go_enter Tryz.func160, Tryz.ntmps160
  go_wp2_with fail
  refine (letters_any rb _ s l 1 _ w hr hs).mono ?_
  rintro e w1 ⟨rfl, hr1, hg1⟩
  generalize Code.word s = ww at *
  generalize Code.behind s = bb at *
  go_wp2_with fail
  refine (fail_any rb _ bb l 1 _ w1 hr1).mono ?_
  rintro e w2 ⟨⟨l', rfl⟩, hg2⟩
  go_wp2
  exact ⟨rfl, Or.inr ⟨HL.out, ⟨l', rfl⟩, grown_trans hg1 hg2⟩⟩
def opCells : List Value := Code.ops.flatMap fun r => [.string (bs r.1), .int .i64 r.2.1, .int .i64 r.2.2]
def Tab (w : World) : Prop := w.rangeAt 0 0 opCells
theorem Tab.grown {w w' : World} {rb : Nat} (h : Tab w) (hg : w.grownBy w' (some rb)) (hrb : 0 < rb) : Tab w' := by
 intro j v hv
 have h1 := h j v hv
 have h0 : 0 < w.heap.size := by
  cases hh : w.heap[0]? with
  | none => simp [World.cell?, hh] at h1
  | some o => exact lt_of_block hh
 have h2 := hg.block 0 h0 (fun e => by simp at e; omega)
 simpa [World.cell?, h2] using h1
theorem opCells_at (k : Nat) (h : k < 13) : opCells[k * 3]? = some (.string (bs (Code.ops.getD k ([], 0, 0)).1)) /\ opCells[k * 3 + 1]? = some (.int .i64 (Code.opOf k : Nat)) := by
 have : ∀ k, k < 13 -> (opCells[k * 3]? = some (.string (bs (Code.ops.getD k ([], 0, 0)).1)) /\ opCells[k * 3 + 1]? = some (.int .i64 (Code.opOf k : Nat))) := by
  intro k h
  match k, h with
  | 0, _ | 1, _ | 2, _ | 3, _ | 4, _ | 5, _ | 6, _ | 7, _ | 8, _ | 9, _ | 10, _ | 11, _ | 12, _ => exact ⟨rfl, rfl⟩
 exact this k h
theorem opOf_any (k : Nat) (w : World) (hk : k < 13) (ht : Tab w) :
  Calls Tryz.prog 188 #[.int .i64 (k : Nat)] w fun e w' => e = .returned (.int .i64 (Code.opOf k : Nat)) /\ w' = w := by
 have hc := ht _ _ (opCells_at k hk).2
 rw [Nat.zero_add] at hc
 have hk' : (k : Int) < 13 := by omega
 go_enter Tryz.func188, Tryz.ntmps188
 go_wp2
 go_ret
 exact ⟨rfl, rfl⟩
theorem opIndex (k : Nat) (h : k < 13) (w : World) : (Instr.index 302 (.agg opCells.toArray) (.int .i64 (k : Nat))).run Tryz.prog w =
  .ok (.agg #[.string (bs (Code.ops.getD k ([], 0, 0)).1), .int .i64 (Code.ops.getD k ([], 0, 0)).2.1, .int .i64 (Code.ops.getD k ([], 0, 0)).2.2]) w := by
 match k, h with
 | 0, _ | 1, _ | 2, _ | 3, _ | 4, _ | 5, _ | 6, _ | 7, _ | 8, _ | 9, _ | 10, _ | 11, _ | 12, _ =>
  show _ = _
  kernel_rfl
namespace Code
def opName (k : Nat) : List UInt8 := (ops.getD k ([], 0, 0)).1
theorem opNamed_some {s : List UInt8} {k : Nat} (hk : k < 13) (h : opName k = s) (hb : ∀ j, j < k -> opName j ≠ s) : opNamed s = some k := by
 unfold opNamed
 rw [List.findIdx?_eq_some_iff_getElem]
 refine ⟨by simpa [ops] using hk, ?_, fun j hj => ?_⟩
 ·have hk' : k < ops.length := by simpa [ops] using hk
  simp only [List.getElem_map, decide_eq_true_eq]
  rw [<- h, opName, List.getD_eq_getElem?_getD, List.getElem?_eq_getElem hk']; rfl
 ·have hj' : j < ops.length := by simp only [ops, List.length_cons, List.length_nil]; omega
  have := hb j hj
  rw [opName, List.getD_eq_getElem?_getD, List.getElem?_eq_getElem hj'] at this
  simpa using this
theorem opNamed_none {s : List UInt8} (hb : ∀ j, j < 13 -> opName j ≠ s) : opNamed s = none := by
 unfold opNamed
 rw [List.findIdx?_eq_none_iff]
 intro x hx
 obtain ⟨j, hj, rfl⟩ := List.getElem_of_mem hx
 have hj' : j < ops.length := by simpa using hj
 have := hb j (by simpa [ops] using hj')
 rw [opName, List.getD_eq_getElem?_getD, List.getElem?_eq_getElem hj'] at this
 simpa using this
end Code
theorem str_eq (a b : List UInt8) : ((bs a).toList == (bs b).toList) = decide (a = b) := by
 rw [ByteArray.toList_eq, ByteArray.toList_eq]
 show (bl (bs a) == bl (bs b)) = _
 rw [bl_bs, bl_bs, Bool.eq_iff_iff]
 simp
theorem opNamed_any (s : List UInt8) (w : World) (ht : Tab w) :
  Calls Tryz.prog 186 #[.string (bs s)] w fun e w' =>
   ((∃ k, k < 13 /\ Code.opNamed s = some k /\ e = .returned (.tuple #[.int .i64 (k : Nat), .bool true])) \/ (Code.opNamed s = none /\ e = .returned (.tuple #[.int .i64 0, .bool false]))) /\ Below w.heap.size w w' := by
 have hsz : (Tryz.prog.info? 302).map (·.size) = some opCells.length := by kernel_rfl
 have HSZ := hide hsz
 clear hsz
 have hix : ∀ k : Nat, k < 13 -> ∀ w, (Instr.index 302 (.agg opCells.toArray) (.int .i64 (k : Nat))).run Tryz.prog w =
  .ok (.agg #[.string (bs (Code.opName k)), .int .i64 (Code.ops.getD k ([], 0, 0)).2.1, .int .i64 (Code.ops.getD k ([], 0, 0)).2.2]) w := opIndex
 have HT := hide ht
 have HIX := hide hix
 clear ht hix
 go_enter Tryz.func186, Tryz.ntmps186
 go_wp2_with (first | refine wpList_load_mid rfl 302 (.global 0) rfl 0 0 rfl opCells _ HT.out Tryz.underlying302 rfl HSZ.out ?_)
 generalize opCells.toArray = C at *
 go_loopw [7] (fun i wr => ∃ k : Nat, k <= 13 /\ i = .int .i64 k /\ Below w.heap.size w wr /\ Hid (∀ j, j < k -> Code.opName j ≠ s)) (fun i _ => 13 - (intOf i).toNat)
 case atStart => exact ⟨0, by omega, rfl, Below.refl _ _, hide (fun j h => by omega)⟩
 case round =>
  obtain ⟨k, hk, rfl, hbw, hne⟩ := hrel
  by_cases hlt : k < 13
  ·have hix := HIX.out k hlt
   have hz := hbw.size
   by_cases he : Code.opName k = s
   ·have hq : ((bs (Code.opName k)).toList == (bs s).toList) = true := by rw [str_eq]; exact decide_eq_true he
    have HR := hide (Code.opNamed_some hlt he hne.out)
    clear he hne
    go_wp2
    go_ret2
    exact ⟨Or.inl ⟨k, hlt, HR.out, rfl⟩, below_al hbw _⟩
   ·have hq : ((bs (Code.opName k)).toList == (bs s).toList) = false := by rw [str_eq]; exact decide_eq_false he
    have HR : Hid (∀ j, j < k + 1 -> Code.opName j ≠ s) := hide fun j hj => by
     rcases Nat.lt_succ_iff_lt_or_eq.1 hj with h | h
     ·exact hne.out j h
     ·subst h; exact he
    clear he hne
    go_wp2
    exact ⟨⟨k + 1, by omega, by go_num, below_al hbw _, HR⟩, by simp [intOf]; omega⟩
  ·have HR := hide (Code.opNamed_none (s := s) (fun j hj => hne.out j (by omega)))
   go_wp2
   go_ret2
   exact ⟨Or.inr ⟨HR.out, rfl⟩, hbw⟩
theorem undrew {w w' : World} {r : Option Nat} (h : w.drew.grownBy w' r) : w.grownBy w' r := ⟨h.os, h.tape, h.output, h.size, h.block⟩
theorem grown_drew {w w' : World} {r : Option Nat} (h : w.grownBy w' r) : w.grownBy w'.drew r := ⟨h.os, h.tape, h.output, h.size, h.block⟩
theorem kept_block {w w' : World} {rb b : Nat} {o : Obj} (h : w.heap[b]? = some o) (hg : w.grownBy w' (some rb)) (hne : b ≠ rb) : w'.heap[b]? = some o := by
 rw [hg.block b (lt_of_block h) (fun e => hne (Option.some.inj e))]; exact h
def natRow (w : World) (g : Nat) (L : List Nat) : Prop := w.heap[g]? = some (.cells (nats L).toArray 3)
theorem natRow.cell {w : World} {g : Nat} {L : List Nat} (h : natRow w g L) (i : Nat) (hi : i < L.length) : w.cell? ⟨g, i, none⟩ = some (.int .i64 (L[i] : Nat)) :=
 blk_cell h i _ (by simp [nats, hi])
theorem natRow.set {w : World} {g : Nat} {L : List Nat} (h : natRow w g L) (i n : Nat) : natRow (w.setCell ⟨g, i, none⟩ (.int .i64 (n : Nat))) g (L.set i n) := by
 unfold natRow at *
 rw [set_block h]
 simp [nats, List.map_set]
theorem natRow.own {w : World} {g base : Nat} {L : List Nat} (h : natRow w g L) (hb : base <= g) (hm : L.length <= maxLen) : w.ownsRow base 3 1 (.slice (some ⟨g, 0, none⟩) L.length L.length) L.length (nats L) :=
 ⟨by simp [nats], Or.inr ⟨g, L.length, _, rfl, hb, h, Nat.le_refl _, hm, by simp [nats], List.take_of_length_le (by simp [nats])⟩⟩
theorem natRow_made {w : World} {base g n : Nat} (h : w.ownsRow base 3 1 (.slice (some ⟨g, 0, none⟩) n n) n (madeCells (Value.int .i64 0).cells (n * 1)).toList) : natRow w g (List.replicate n 0) := by
 rcases h.2 with ⟨h0, _⟩ | ⟨g', cap, cur, hv, _, hg, _, _, hs, ht⟩
 ·cases h0
 ·simp only [Value.slice.injEq, Option.some.injEq, Addr.mk.injEq] at hv
  obtain ⟨⟨rfl, _⟩, _, rfl⟩ := hv
  unfold natRow
  rw [hg]
  congr 2
  apply Array.toList_inj.1
  rw [<- List.take_of_length_le (l := cur.toList) (i := n * 1) (by simp [hs]), ht]
  apply List.ext_getElem
  ·simp [madeCells, nats]
  ·intro i h1 h2
   simp [madeCells, Value.cells, Nat.mod_one, nats]
namespace Code
theorem opOf_range (k : Nat) (h : k < 13) : 1 <= opOf k /\ opOf k <= 2 := by
 match k, h with
 | 0, _ | 1, _ | 2, _ | 3, _ | 4, _ | 5, _ | 6, _ | 7, _ | 8, _ | 9, _ | 10, _ | 11, _ | 12, _ => decide
end Code
theorem row_next (done : List Nat) (n j x : Nat) (hj : done.length = j) (h : j < n) : (done ++ List.replicate (n - j) 0).set j x = done ++ [x] ++ List.replicate (n - (j + 1)) 0 := by
 subst hj
 rw [show n - done.length = (n - (done.length + 1)) + 1 by omega, List.replicate_succ, List.set_append_right _ _ (Nat.le_refl _)]
 simp
theorem apply_any (rb : Nat) (ww s : List UInt8) (l : Int) (a : Nat) (w : World) (hr : RdF w rb s l a) (hs : s.length <= 3000) (ht : Tab w) (hrb : 0 < rb) :
  Calls Tryz.prog 223 #[.pointer (some ⟨rb, 0, none⟩), .string (bs ww)] w fun e w' =>
   (∃ k of t v, Code.apply ww s = some (.apply k of, t) /\ e = .returned (.agg #[.int .i64 (k : Nat), v]) /\ w'.ownsRow w.heap.size 3 1 v of.length (nats of) /\ RdF w' rb t l a /\ t.length <= s.length /\ w.grownBy w' (some rb)) \/
   (Code.apply ww s = none /\ Fails w rb 1 e w') := by
 obtain ⟨i0, hi, hi0, hi1, hi2⟩ := info_parts infoInt
 have hrlt := hr.lt
 go_enter Tryz.func223, Tryz.ntmps223
 go_wp2_with fail
 generalize hw0 : w.alloc _ = w0
 have hg0 : w.grownBy w0 (some rb) := by rw [<- hw0]; exact grown_alloc _ _ _
 have hr0 : RdF w0 rb s l a := by rw [<- hw0]; exact stay_alloc hr
 have hz0 : w0.heap.size = w.heap.size + 1 := by rw [<- hw0]; simp
 have hn0 : w0.heap[w.heap.size]? = some (.cells #[.int .i64 0, .slice none 0 0] 238) := by rw [<- hw0]; exact heap_alloc_new w _
 clear hw0
 refine (opNamed_any ww w0 (ht.grown hg0 hrb)).mono ?_
 rintro e w1 ⟨⟨k, hk, hc, rfl⟩ | ⟨hc, rfl⟩, hb1⟩
 case inr =>
  have hg1 : w0.grownBy w1 (some rb) := grown_below hb1
  have hr1 : RdF w1 rb s l a := by unfold RdF Rd; rw [hb1.block rb hr0.lt]; exact hr0
  have HC := hide hc
  clear hc
  go_wp2_with fail
  refine (fail_any rb _ s l 1 _ w1 hr1).mono ?_
  rintro e w2 ⟨⟨l', rfl⟩, hg2⟩
  go_wp2
  exact ⟨rfl, Or.inr ⟨by simp [Code.apply, HC.out], ⟨l', rfl⟩, grown_trans hg0 (grown_trans hg1 hg2)⟩⟩
 have hg1 : w0.grownBy w1 (some rb) := grown_below hb1
 have hr1 : RdF w1 rb s l a := by unfold RdF Rd; rw [hb1.block rb hr0.lt]; exact hr0
 have hn1 := kept_block hn0 hg1 (by omega)
 have HA : Hid (Code.apply ww s = (Code.ofN (Code.opOf k) s).map fun p => (.apply k p.1, p.2)) := by simp only [Hid, Code.apply, hc, Option.bind_some]
 have hop := Code.opOf_range k hk
 have hgw1 := grown_trans hg0 hg1
 have ht1 := ht.grown hgw1 hrb
 have hsz1 := hg1.size
 have HT := hide ht
 clear hc hn0 hr0 hg0 hg1 ht
 go_wp2_with fail
 refine (opOf_any k w1 hk ht1).mono ?_
 rintro e w1 ⟨rfl, rfl⟩
 generalize hN : Code.opOf k = N at *
 obtain ⟨hop1, hop2⟩ := hop
 go_wp2_with (first | (at_make; refine wpList_make_full _ rfl _ _ 31 rfl w.heap.size 3 i0 (.int .i64 0) 1 Tryz.underlying31 hi hi0 hi1 .i64 .i64 _ _ N rfl rfl rfl rfl (by rw [hi2]; omega) (by unfold maxLen; omega) (by omega) ?_; intro w2 hown2 hgrow2; have hnr2 := natRow_made hown2))
 have hg2 : w1.grownBy w2 (some rb) := ⟨hgrow2.os, hgrow2.tape, hgrow2.output, hgrow2.size, fun q hq _ => hgrow2.block q hq (by simp)⟩
 have hgw2 := grown_trans hgw1 hg2
 have hr2 : RdF w2 rb s l a := by unfold RdF Rd; rw [hgrow2.block rb hr1.lt (by simp)]; exact hr1
 have hn2 : w2.heap[w.heap.size]? = some (.cells #[.int .i64 0, .slice none 0 0] 238) := by rw [hgrow2.block _ (by omega) (by simp)]; exact hn1
 generalize hG : w1.heap.size = g at *
 have hgne : g ≠ rb := by have := hr1.lt; omega
 have hgw : w.heap.size + 1 <= g := by omega
 clear hown2 hgrow2 hgw1 hg2 hn1 hr1 ht1 hb1
 go_loopw [25] (fun i wr => ∃ (j : Nat) (done : List Nat) (t : List UInt8), j <= N /\ done.length = j /\ i = .int .i64 j /\ natRow wr g (done ++ List.replicate (N - j) 0) /\ RdF wr rb t l a /\ t.length <= s.length /\ w.grownBy wr (some rb) /\
   wr.heap[w.heap.size]? = some (.cells #[.int .i64 0, .slice none 0 0] 238) /\ Hid (Code.ofN N s = (Code.ofN (N - j) t).map fun q => (done ++ q.1, q.2)))
  (fun i _ => N - (intOf i).toNat)
 case atStart => exact ⟨0, [], s, by omega, rfl, rfl, by simpa using hnr2, hr2, Nat.le_refl _, hgw2, hn2, by simp [Hid]⟩
 case round =>
  obtain ⟨j, done, t, hj, hdl, rfl, hnr, hrd, htl, hgr, hnn, hsp⟩ := hrel
  by_cases hlt : j < N
  ·have hsp' : Hid (Code.ofN N s = ((Code.cut [32] t).bind fun r => (Code.value r).bind fun p => (Code.ofN (N - (j + 1)) p.2).map fun q => (p.1 :: q.1, q.2)).map fun q => (done ++ q.1, q.2)) := by
    rw [hsp.out, show N - j = (N - (j + 1)) + 1 by omega]; exact rfl
   clear hsp
   go_wp2_with fail
   refine (take_any rb _ t [32] l 1 _ wr hrd (by omega) (by simp)).mono ?_
   rintro e w3 (⟨r3, hc, rfl, hr3, hg3⟩ | ⟨hc, ⟨l', rfl⟩, hg3⟩)
   case inr =>
    go_wp2
    exact ⟨rfl, Or.inr ⟨by rw [HA.out, hsp'.out, hc]; rfl, ⟨l', rfl⟩, grown_trans hgr hg3⟩⟩
   have H3 : Hid (Code.ofN N s = ((Code.value r3).bind fun p => (Code.ofN (N - (j + 1)) p.2).map fun q => (p.1 :: q.1, q.2)).map fun q => (done ++ q.1, q.2)) := by
    rw [hsp'.out, hc]; exact rfl
   have l3 := Code.cut_length hc
   clear hc hsp'
   go_wp2_with fail
   refine (value_any rb r3 l a w3 hr3 (by omega)).mono ?_
   rintro e w4 (⟨x, r4, hc, rfl, hr4, hg4⟩ | ⟨hc, ⟨l', rfl⟩, hg4⟩)
   case inr =>
    go_wp2
    exact ⟨rfl, Or.inr ⟨by rw [HA.out, H3.out, hc]; rfl, ⟨l', rfl⟩, grown_trans hgr (grown_trans hg3 hg4)⟩⟩
   have H4 : Hid (Code.ofN N s = (Code.ofN (N - (j + 1)) r4).map fun q => (done ++ [x] ++ q.1, q.2)) := by
    rw [H3.out, hc]
    refine hide ?_
    simp only [Option.bind_some, Option.map_map]
    congr 1
    funext q
    simp
   have l4 := (Code.value_some hc).2
   clear hc H3
   have hnr4 : natRow w4 g (done ++ List.replicate (N - j) 0) := kept_block (kept_block hnr hg3 hgne) hg4 hgne
   have hnn4 := kept_block (kept_block hnn hg3 (by omega)) hg4 (by omega)
   have hc4 := hnr4.cell j (by simp; omega)
   have hf4 := blk_froz hnr4 j
   have hjl : (j : Int) < (N : Int) := by omega
   go_wp2
   refine ⟨⟨j + 1, done ++ [x], r4, by omega, by simp [hdl], by go_num, ?_, stay_set hr4 hgne.symm, by omega, grown_new (grown_trans hgr (grown_trans hg3 hg4)) (by omega) _ _, stay_set hnn4 (show w.heap.size ≠ g by omega), H4⟩, by simp [intOf]; omega⟩
   have := hnr4.set j x
   rw [row_next done N j x hdl hlt] at this
   exact this
  ·have hjn : j = N := by omega
   have HD : Hid (Code.apply ww s = some (.apply k done, t)) := by
    rw [HA.out, hsp.out, hjn]
    simp [Hid, Code.ofN]
   have HR : Hid (natRow wr g done) := by
    have h := hnr
    rw [hjn] at h
    simpa [Hid] using h
   have HL : Hid (done.length = N) := hide (by omega)
   clear hsp hnr
   have hc0 := blk_cell hnn 0 _ rfl
   have hc1 := blk_cell hnn 1 _ rfl
   have hf0 := blk_froz hnn 0
   have hf1 := blk_froz hnn 1
   clear hdl
   go_wp2
   refine bodyPost_ret (v := .agg #[.int .i64 (k : Nat), .slice (some ⟨g, 0, none⟩) N N]) (by simp [results, Tryz.results223, go_sem, hc0, hc1]) rfl ?_
   have hgn : g ≠ w.heap.size := by omega
   have hrn : rb ≠ w.heap.size := by omega
   refine Or.inl ⟨k, done, t, _, HD.out, rfl, ?_, stay_set (stay_set hrd hrn) hrn, htl, grown_new (grown_new hgr (Nat.le_refl _) _ _) (Nat.le_refl _) _ _⟩
   rw [<- HL.out]
   exact natRow.own (stay_set (stay_set HR.out hgn) hgn) (by omega) (by rw [HL.out]; unfold maxLen; omega)
def ThingV (w : World) (base : Nat) : Code.Thing -> Value -> Prop
 | .phi of, v => ∃ r, v = .iface 232 (.agg #[r]) /\ w.ownsRow base 3 1 r of.length (nats of)
 | .arg n, v => v = .iface 234 (.agg #[.int .i64 (n : Nat)])
 | .const n, v => v = .iface 236 (.agg #[.int .i32 n])
 | .apply k of, v => ∃ r, v = .iface 238 (.agg #[.int .i64 (k : Nat), r]) /\ w.ownsRow base 3 1 r of.length (nats of)
namespace Code
theorem signed_length {s t : List UInt8} {n : Int} (h : signed s = some (n, t)) : t.length < s.length /\ -2147483648 <= n /\ n <= 2147483647 := by
 have key : ∀ (b : Bool) (p : Nat × List UInt8), signedOf b p = some (n, t) -> t = p.2 /\ -2147483648 <= n /\ n <= 2147483647 := by
  intro b p h
  obtain ⟨m, r⟩ := p
  cases b
  ·by_cases hm : m <= 2147483647
   ·rw [signedOf_plus hm] at h
    simp only [Option.some.injEq, Prod.mk.injEq] at h
    rw [<- h.1, <- h.2]
    exact ⟨rfl, by omega, by omega⟩
   ·rw [signedOf_plus_big (by omega)] at h; cases h
  ·by_cases h0 : m = 0
   ·rw [signedOf_zero h0] at h; cases h
   ·by_cases hm : m <= 2147483648
    ·rw [signedOf_minus (by omega) hm] at h
     simp only [Option.some.injEq, Prod.mk.injEq] at h
     rw [<- h.1, <- h.2]
     exact ⟨rfl, by omega, by omega⟩
    ·rw [signedOf_minus_big (by omega)] at h; cases h
 unfold signed at h
 split at h
 ·rename_i r hr
  have h1 := cut_length hr
  cases hn : number r with
  | none => rw [hn] at h; cases h
  | some p =>
   rw [hn] at h
   have h2 := key _ _ h
   have h3 := number_length (show number r = some (p.1, p.2) from hn)
   rw [h2.1]
   exact ⟨by omega, h2.2⟩
 ·cases hn : number s with
  | none => rw [hn] at h; cases h
  | some p =>
   rw [hn] at h
   have h2 := key _ _ h
   have h3 := number_length (show number s = some (p.1, p.2) from hn)
   rw [h2.1]
   exact ⟨by omega, h2.2⟩
end Code
theorem thing_any (rb : Nat) (s : List UInt8) (l : Int) (a : Nat) (w : World) (hr : RdF w rb s l a) (hs : s.length <= 3000) (ht : Tab w) (hrb : 0 < rb)
  (hok : Code.word s = Code.sArg -> ∀ r, Code.cut [32] (Code.behind s) = some r -> Code.below a r ≠ none) :
  Calls Tryz.prog 199 #[.pointer (some ⟨rb, 0, none⟩)] w fun e w' =>
   (∃ y t v, Code.ThingOf a s (some (y, t)) /\ e = .returned v /\ ThingV w' w.heap.size y v /\ RdF w' rb t l a /\ t.length <= s.length /\ w.grownBy w' (some rb)) \/
   (Code.ThingOf a s none /\ Fails w rb 1 e w') := by
 have hlb0 : (Code.behind s).length <= s.length := Code.rest_length _ _ _
 have hlb : (Code.behind s).length <= 3000 := by omega
 have HOKA := hide hok
 clear hok
 by_cases h1 : Code.word s = Code.sPhi
 ·have HP : Hid (∀ o, Code.PhiOf (Code.behind s) o -> Code.ThingOf a s (o.map fun p => (.phi p.1, p.2))) := hide fun o ho => Code.ThingOf.phi h1 ho
  have q1 := word_yes h1
  unfold Code.sPhi at q1
  clear h1
  go_enter Tryz.func199, Tryz.ntmps199
  go_wp2_with fail
  refine (letters_any rb _ s l 1 _ w hr hs).mono ?_
  rintro e w1 ⟨rfl, hr1, hg1⟩
  generalize Code.word s = ww at *
  generalize Code.behind s = bb at *
  go_wp2_with fail
  refine (phiValues_any rb bb l a w1 hr1 hlb).mono ?_
  rintro e w2 (⟨of, t, v, hc, rfl, hown, hr2, hlt, hg2⟩ | ⟨hc, ⟨l', rfl⟩, hg2⟩)
  case inr =>
   go_wp2
   exact ⟨rfl, Or.inr ⟨HP.out _ hc, ⟨l', rfl⟩, grown_trans hg1 hg2⟩⟩
  have HC := hide (HP.out _ hc)
  have hown' := own_base hown hg1.size
  clear hc hown
  obtain ⟨p, c, rfl⟩ := own_slice hown'
  go_wp2
  go_ret
  exact Or.inl ⟨.phi of, t, _, HC.out, rfl, ⟨_, rfl, hown'⟩, hr2, by omega, grown_trans hg1 hg2⟩
 by_cases h2 : Code.word s = Code.sArg
 ·have HP := hide (Code.ThingOf.arg (args := a) h2)
  have HOK0 := hide (HOKA.out h2)
  have q1 := word_no h1
  have q2 := word_yes h2
  unfold Code.sPhi at q1
  unfold Code.sArg at q2
  clear h1 h2
  go_enter Tryz.func199, Tryz.ntmps199
  go_wp2_with fail
  refine (letters_any rb _ s l 1 _ w hr hs).mono ?_
  rintro e w1 ⟨rfl, hr1, hg1⟩
  generalize Code.word s = ww at *
  generalize Code.behind s = bb at *
  go_wp2_with fail
  refine (take_any rb _ bb [32] l 1 _ w1 hr1 hlb (by simp)).mono ?_
  rintro e w2 (⟨r2, hc, rfl, hr2, hg2⟩ | ⟨hc, ⟨l', rfl⟩, hg2⟩)
  case inr =>
   have HC := HP.out
   rw [hc] at HC
   go_wp2
   exact ⟨rfl, Or.inr ⟨HC, ⟨l', rfl⟩, grown_trans hg1 hg2⟩⟩
  have H2 : Hid (Code.ThingOf a s ((Code.below a r2).map fun p => (.arg p.1, p.2))) := by
   have h := HP.out
   rw [hc] at h
   exact h
  have l2 := Code.cut_length hc
  simp only [List.length_cons, List.length_nil] at l2
  have HOK := hide (HOK0.out r2 hc)
  clear hc HP
  have c3 := hr2.c3
  have HB := hide (fun (w' : World) (h : RdF w' rb r2 l a) => below_any rb _ r2 l 1 a _ w' h (by omega))
  cases hb : Code.below a r2 with
  | none => exact absurd hb HOK.out
  | some q =>
   obtain ⟨x, r3⟩ := q
   have l3 := (Code.below_some hb).2
   rw [hb] at H2
   have HB' : Hid (∀ (w' : World), RdF w' rb r2 l a -> Calls Tryz.prog 116 #[.pointer (some ⟨rb, 0, none⟩), .int .i64 (a : Nat)] w' fun e w'' => e = .returned (.int .i64 (x : Nat)) /\ RdF w'' rb r3 l a /\ w'.grownBy w'' (some rb)) := hide fun w' h => by
    refine (HB.out w' h).mono ?_
    rw [hb]
    rintro e w'' (⟨_, _, h', rfl, h2, h3⟩ | ⟨h', _⟩)
    ·cases h'; exact ⟨rfl, h2, h3⟩
    ·cases h'
   clear HB hb
   go_wp2_with fail
   go_region_held3 (fun w' => w'.cell? ⟨rb, 3, none⟩ = some (.int .i64 (a : Nat))) (go_keep) (first | (go_at_call 116; refine (HB'.out _ ?_).mono ?_; (exact hr2); rintro e w3 ⟨rfl, hr3, hg3⟩; have c3' := hr3.c3))
   go_wp2
   go_ret
   exact Or.inl ⟨.arg x, r3, _, H2.out, rfl, rfl, hr3, by omega, grown_trans hg1 (grown_trans hg2 (undrew hg3))⟩
 by_cases h3 : Code.word s = Code.sConst
 ·have HP := hide (Code.ThingOf.const (args := a) h3)
  have q1 := word_no h1
  have q2 := word_no h2
  have q3 := word_yes h3
  unfold Code.sPhi at q1
  unfold Code.sArg at q2
  unfold Code.sConst at q3
  clear h1 h2 h3
  go_enter Tryz.func199, Tryz.ntmps199
  go_wp2_with fail
  refine (letters_any rb _ s l 1 _ w hr hs).mono ?_
  rintro e w1 ⟨rfl, hr1, hg1⟩
  generalize Code.word s = ww at *
  generalize Code.behind s = bb at *
  go_wp2_with fail
  refine (take_any rb _ bb [32] l 1 _ w1 hr1 hlb (by simp)).mono ?_
  rintro e w2 (⟨r2, hc, rfl, hr2, hg2⟩ | ⟨hc, ⟨l', rfl⟩, hg2⟩)
  case inr =>
   have HC := HP.out
   rw [hc] at HC
   go_wp2
   exact ⟨rfl, Or.inr ⟨HC, ⟨l', rfl⟩, grown_trans hg1 hg2⟩⟩
  have H2 : Hid (Code.ThingOf a s ((Code.signed r2).map fun p => (.const p.1, p.2))) := by
   have h := HP.out
   rw [hc] at h
   exact h
  have l2 := Code.cut_length hc
  simp only [List.length_cons, List.length_nil] at l2
  clear hc HP
  go_wp2_with fail
  refine (signed_any rb _ r2 l 1 _ w2 hr2 (by omega)).mono ?_
  rintro e w3 (⟨x, r3, hc, rfl, hr3, hg3⟩ | ⟨hc, ⟨l', rfl⟩, hg3⟩)
  case inr =>
   have HC := H2.out
   rw [hc] at HC
   go_wp2
   exact ⟨rfl, Or.inr ⟨HC, ⟨l', rfl⟩, grown_trans hg1 (grown_trans hg2 hg3)⟩⟩
  have l3 := (Code.signed_length hc).1
  rw [hc] at H2
  clear hc
  go_wp2
  go_ret
  exact Or.inl ⟨.const x, r3, _, H2.out, rfl, rfl, hr3, by omega, grown_trans hg1 (grown_trans hg2 hg3)⟩
 ·have HP := hide (Code.ThingOf.apply (args := a) h1 h2 h3)
  have q1 := word_no h1
  have q2 := word_no h2
  have q3 := word_no h3
  unfold Code.sPhi at q1
  unfold Code.sArg at q2
  unfold Code.sConst at q3
  clear h1 h2 h3
  go_enter Tryz.func199, Tryz.ntmps199
  go_wp2_with fail
  refine (letters_any rb _ s l 1 _ w hr hs).mono ?_
  rintro e w1 ⟨rfl, hr1, hg1⟩
  have ht1 := ht.grown hg1 hrb
  generalize Code.word s = ww at *
  generalize Code.behind s = bb at *
  go_wp2_with fail
  refine (apply_any rb ww bb l a w1 hr1 hlb ht1 hrb).mono ?_
  rintro e w2 (⟨k, of, t, v, hc, rfl, hown, hr2, hlt, hg2⟩ | ⟨hc, ⟨l', rfl⟩, hg2⟩)
  case inr =>
   have HC := HP.out
   rw [hc] at HC
   go_wp2
   exact ⟨rfl, Or.inr ⟨HC, ⟨l', rfl⟩, grown_trans hg1 hg2⟩⟩
  rw [hc] at HP
  have hown' := own_base hown hg1.size
  clear hc hown ht1
  obtain ⟨p, c, rfl⟩ := own_slice hown'
  go_wp2
  go_ret
  exact Or.inl ⟨.apply k of, t, _, HP.out, rfl, ⟨_, rfl, hown'⟩, hr2, by omega, grown_trans hg1 hg2⟩
namespace Code
theorem ThingOf.det {a : Nat} {s : List UInt8} {o o' : Option (Thing × List UInt8)} (h : ThingOf a s o) (h' : ThingOf a s o') : o = o' := by
 cases h with
 | phi h1 h2 => cases h' with
  | phi _ g2 => rw [h2.det g2]
  | arg g1 => rw [h1] at g1; cases g1
  | const g1 => rw [h1] at g1; cases g1
  | apply g1 _ _ => exact absurd h1 g1
 | arg h1 => cases h' with
  | phi g1 _ => rw [h1] at g1; cases g1
  | arg _ => rfl
  | const g1 => rw [h1] at g1; cases g1
  | apply _ g1 _ => exact absurd h1 g1
 | const h1 => cases h' with
  | phi g1 _ => rw [h1] at g1; cases g1
  | arg g1 => rw [h1] at g1; cases g1
  | const _ => rfl
  | apply _ _ g1 => exact absurd h1 g1
 | apply h1 h2 h3 => cases h' with
  | phi g1 _ => exact absurd g1 h1
  | arg g1 => exact absurd g1 h2
  | const g1 => exact absurd g1 h3
  | apply _ _ _ => rfl
theorem ThingOf.argOk {a : Nat} {s t : List UInt8} {y : Thing} (h : ThingOf a s (some (y, t))) : word s = sArg -> ∀ r, cut [32] (behind s) = some r -> below a r ≠ none := by
 intro h1 r hr hb
 have := h.det (ThingOf.arg h1)
 rw [hr] at this
 simp only [Option.bind_some] at this
 rw [hb] at this
 cases this
end Code
theorem thing_ok (rb : Nat) (s t : List UInt8) (y : Code.Thing) (l : Int) (a : Nat) (w : World) (hr : RdF w rb s l a) (hs : s.length <= 3000) (ht : Tab w) (hrb : 0 < rb) (hy : Code.ThingOf a s (some (y, t))) :
  Calls Tryz.prog 199 #[.pointer (some ⟨rb, 0, none⟩)] w fun e w' =>
   ∃ v, e = .returned v /\ ThingV w' w.heap.size y v /\ RdF w' rb t l a /\ t.length <= s.length /\ w.grownBy w' (some rb) := by
 refine (thing_any rb s l a w hr hs ht hrb hy.argOk).mono ?_
 rintro e w' (⟨y', t', v, h1, rfl, h2, h3, h4, h5⟩ | ⟨h1, _⟩)
 ·have := hy.det h1
  simp only [Option.some.injEq, Prod.mk.injEq] at this
  obtain ⟨rfl, rfl⟩ := this
  exact ⟨v, rfl, h2, h3, h4, h5⟩
 ·cases hy.det h1
end Go.Proofs.YtedkjanogjglkaaGreatDoor
