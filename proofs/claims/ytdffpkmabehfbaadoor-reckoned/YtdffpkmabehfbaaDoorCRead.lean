/-
  Walks: code.reader: lineEnd, value, target.
-/
import Derived.Test.YtdffpkmabehfbaaDoorCScan4
namespace Go.Proofs.YtdffpkmabehfbaaDoor
open Go.RowKit

namespace Code
theorem cut_length {p s r : List UInt8} (h : cut p s = some r) : r.length + p.length = s.length := by
  rw [cut_some h]; simp; omega

theorem number_length {s t : List UInt8} {n : Nat} (h : number s = some (n, t)) : t.length < s.length := (number_some h).2

theorem below_some {lim : Int} {s t : List UInt8} {n : Nat} (h : below lim s = some (n, t)) : (n : Int) < lim ∧ t.length < s.length := by
  unfold below at h
  cases hn : number s with
  | none => rw [hn] at h; cases h
  | some p =>
    rw [hn] at h
    simp only [Option.bind_some] at h
    split at h
    · rename_i hl
      cases h
      exact ⟨hl, number_length hn⟩
    · cases h

theorem value_some {s t : List UInt8} {n : Nat} (h : value s = some (n, t)) : n < 60 ∧ t.length < s.length := by
  unfold value at h
  cases hn : cut [118] s with
  | none => rw [hn] at h; cases h
  | some r =>
    rw [hn] at h
    have h1 := below_some (show below 60 r = some (n, t) from h)
    have h2 := cut_length hn
    simp at h2
    omega

theorem PhiOf.det {s : List UInt8} {o o' : Option (List Nat × List UInt8)} (h : PhiOf s o) (h' : PhiOf s o') : o = o' := by
  induction h generalizing o' with
  | done h1 => cases h' with
    | done _ => rfl
    | bad g1 _ => rw [h1] at g1; cases g1
    | more g1 _ _ => rw [h1] at g1; cases g1
  | bad h1 h2 => cases h' with
    | done g1 => rw [h1] at g1; cases g1
    | bad _ _ => rfl
    | more g1 g2 _ => rw [h1] at g1; cases g1; rw [h2] at g2; cases g2
  | more h1 h2 _ ih => cases h' with
    | done g1 => rw [h1] at g1; cases g1
    | bad g1 g2 => rw [h1] at g1; cases g1; rw [h2] at g2; cases g2
    | more g1 g2 g3 => rw [h1] at g1; cases g1; rw [h2] at g2; cases g2; rw [ih g3]
end Code

/-- The reader of functions: what lies behind its three first cells: how many arguments there are. -/
def RdF (w : World) (rb : Nat) (s : List UInt8) (l : Int) (a : Nat) : Prop := Rd w rb 62 s l 1 [.int .i64 a]

set_option maxHeartbeats 400000 in
theorem lineEnd_any (rb : Nat) (s : List UInt8) (l : Int) (a : Nat) (w : World) (hr : RdF w rb s l a) (hs : s.length ≤ 3000) (hl : 0 ≤ l ∧ l + s.length ≤ 100000) :
    Calls Tryd.prog 30 #[.pointer (some ⟨rb, 0, none⟩)] w fun e w' =>
      (∃ r, Code.cut [10] s = some r ∧ e = .returned (.tuple #[]) ∧ RdF w' rb r (l + 1) a ∧ w.grownBy w' (some rb)) ∨ (Code.cut [10] s = none ∧ Fails w rb 1 e w') := by
  obtain ⟨hl0, hl1⟩ := hl
  go_enter Tryd.func30, Tryd.ntmps30
  go_wp2_with fail
  refine (take_any rb _ s [10] l 1 _ w hr hs (by simp)).mono ?_
  rintro e w1 (⟨r, hc, rfl, hr1, hg1⟩ | ⟨hc, ⟨l', rfl⟩, hg1⟩)
  · have c1 := hr1.c1
    have f1 := hr1.fz 1
    have HC := hide hc
    clear hc
    go_wp2
    go_end0
    exact Or.inl ⟨r, HC.out, rfl, hr1.set1 _, grown_trans hg1 (grown_set _ _ _ _)⟩
  · go_wp2
    exact ⟨rfl, Or.inr ⟨hc, ⟨l', rfl⟩, hg1⟩⟩

set_option maxHeartbeats 400000 in
theorem value_any (rb : Nat) (s : List UInt8) (l : Int) (a : Nat) (w : World) (hr : RdF w rb s l a) (hs : s.length ≤ 3000) :
    Calls Tryd.prog 56 #[.pointer (some ⟨rb, 0, none⟩)] w fun e w' =>
      (∃ n t, Code.value s = some (n, t) ∧ e = .returned (.int .i64 (n : Nat)) ∧ RdF w' rb t l a ∧ w.grownBy w' (some rb)) ∨ (Code.value s = none ∧ Fails w rb 1 e w') := by
  go_enter Tryd.func56, Tryd.ntmps56
  go_wp2_with fail
  refine (take_any rb _ s [118] l 1 _ w hr hs (by simp)).mono ?_
  rintro e w1 (⟨r, hc, rfl, hr1, hg1⟩ | ⟨hc, ⟨l', rfl⟩, hg1⟩)
  · have HV : Hid (Code.value s = Code.below 60 r) := by simp [Hid, Code.value, hc]
    have hrl := Code.cut_length hc
    clear hc
    go_wp2_with fail
    refine (below_any rb _ r l 1 60 _ w1 hr1 (by omega)).mono ?_
    rintro e w2 (⟨n, t, hn, rfl, hr2, hg2⟩ | ⟨hn, ⟨l', rfl⟩, hg2⟩)
    · have HN := hide hn
      clear hn
      go_wp2
      go_ret
      exact Or.inl ⟨n, t, HV.out.trans HN.out, rfl, hr2, grown_trans hg1 hg2⟩
    · go_wp2
      exact ⟨rfl, Or.inr ⟨HV.out.trans hn, ⟨l', rfl⟩, grown_trans hg1 hg2⟩⟩
  · go_wp2
    exact ⟨rfl, Or.inr ⟨by simp [Code.value, hc], ⟨l', rfl⟩, hg1⟩⟩

set_option maxHeartbeats 400000 in
theorem target_any (rb : Nat) (s : List UInt8) (l : Int) (a : Nat) (w : World) (hr : RdF w rb s l a) (hs : s.length ≤ 3000) :
    Calls Tryd.prog 59 #[.pointer (some ⟨rb, 0, none⟩)] w fun e w' =>
      (∃ n t, Code.target s = some (n, t) ∧ e = .returned (.int .i64 (n : Nat)) ∧ RdF w' rb t l a ∧ w.grownBy w' (some rb)) ∨ (Code.target s = none ∧ Fails w rb 1 e w') := by
  go_enter Tryd.func59, Tryd.ntmps59
  go_wp2_with fail
  refine (take_any rb _ s [98] l 1 _ w hr hs (by simp)).mono ?_
  rintro e w1 (⟨r, hc, rfl, hr1, hg1⟩ | ⟨hc, ⟨l', rfl⟩, hg1⟩)
  · have HV : Hid (Code.target s = (Code.number r).map fun p => (min p.1 8, p.2)) := by simp [Hid, Code.target, hc]
    have hrl := Code.cut_length hc
    clear hc
    go_wp2_with fail
    refine (number_any rb _ r l 1 _ w1 hr1 (by omega)).mono ?_
    rintro e w2 (⟨n, t, hn, rfl, hr2, hg2⟩ | ⟨hn, ⟨l', rfl⟩, hg2⟩)
    · have hb := (Code.number_some hn).1
      have HN : Hid (Code.target s = some (min n 8, t)) := by rw [HV.out, hn]; exact rfl
      clear hn
      go_wp2
      all_goals
        go_ret
        exact Or.inl ⟨min n 8, t, HN.out, ret_int (by omega), hr2, grown_trans hg1 hg2⟩
    · go_wp2
      exact ⟨rfl, Or.inr ⟨by rw [HV.out, hn]; rfl, ⟨l', rfl⟩, grown_trans hg1 hg2⟩⟩
  · go_wp2
    exact ⟨rfl, Or.inr ⟨by simp [Code.target, hc], ⟨l', rfl⟩, hg1⟩⟩

/-- Numbers that are not below 0, in cells. -/
def nats (l : List Nat) : List Value := l.map fun n => .int .i64 (n : Nat)

theorem nats_length (l : List Nat) : (nats l).length = l.length := by simp [nats]
theorem nats_snoc (l : List Nat) (n : Nat) : nats (l ++ [n]) = nats l ++ [.int .i64 (n : Nat)] := by simp [nats]
theorem nats_get (l : List Nat) (j : Nat) (h : j < l.length) : (nats l)[j]? = some (.int .i64 (l[j] : Nat)) := by simp [nats, h]

/-- How much is ahead of a reader. -/
def restLen (w : World) (rb : Nat) : Nat := match w.cell? ⟨rb, 0, none⟩ with
  | some (.string b) => b.size
  | _ => 0

theorem restLen_of {w : World} {rb : Nat} {T : TypeId} {s : List UInt8} {l why : Int} {X : List Value} (h : Rd w rb T s l why X) : restLen w rb = s.length := by
  simp only [restLen, h.c0, bs_size]

set_option maxRecDepth 100000 in
set_option maxHeartbeats 1000000 in
theorem phiValues_any (rb : Nat) (s : List UInt8) (l : Int) (a : Nat) (w : World) (hr : RdF w rb s l a) (hs : s.length ≤ 3000) :
    Calls Tryd.prog 68 #[.pointer (some ⟨rb, 0, none⟩)] w fun e w' =>
      (∃ of t v, Code.PhiOf s (some (of, t)) ∧ e = .returned v ∧ w'.ownsRow w.heap.size 3 1 v of.length (nats of) ∧ RdF w' rb t l a ∧ t.length ≤ s.length ∧ w.grownBy w' (some rb)) ∨ (Code.PhiOf s none ∧ Fails w rb 1 e w') := by
  obtain ⟨i0, hi, hz0, hz1, hz2⟩ := info_parts infoInt
  go_enter Tryd.func68, Tryd.ntmps68
  go_wp2
  go_loopw [3] (fun v wr => ∃ (of : List Nat) (t : List UInt8), of.length + t.length ≤ s.length ∧ wr.ownsRow w.heap.size 3 1 v of.length (nats of) ∧ RdF wr rb t l a ∧ w.grownBy wr (some rb) ∧
      Hid (∀ o, Code.PhiOf t o → Code.PhiOf s (o.map fun p => (of ++ p.1, p.2))))
    (fun _ wr => restLen wr rb)
  case atStart => exact ⟨[], s, by simp, World.ownsRow_nil _ _ _ _, hr, grown_refl _ _, hide (by rintro (_ | ⟨x, y⟩) h <;> exact h)⟩
  case round =>
    obtain ⟨of, t, hlen, hown, hrd, hgr, hsp⟩ := hrel
    have hm0 := hide (restLen_of hrd)
    cases hc : Code.cut [32] t with
    | none =>
      have HC := hide hc
      have HS : Hid (Code.PhiOf s (some (of, t))) := by
        have := hsp.out _ (Code.PhiOf.done hc)
        simpa [Hid] using this
      clear hc
      go_wp2_with fail
      refine (skip_any rb _ t [32] l 1 _ wr hrd (by omega) (by simp)).mono ?_
      rw [HC.out]
      rintro e w1 ⟨rfl, hr1, hg1⟩
      go_wp2
      go_ret
      exact Or.inl ⟨of, t, _, HS.out, rfl, own_kept hrd hg1 hown (by decide), hr1, by omega, grown_trans hgr hg1⟩
    | some r =>
      have HC := hide hc
      have hrl := Code.cut_length hc
      clear hc
      simp only [List.length_cons, List.length_nil] at hrl
      go_wp2_with fail
      refine (skip_any rb _ t [32] l 1 _ wr hrd (by omega) (by simp)).mono ?_
      rw [HC.out]
      rintro e w1 ⟨rfl, hr1, hg1⟩
      go_wp2_with fail
      refine (value_any rb r l a w1 hr1 (by omega)).mono ?_
      have hown1 := own_kept hrd hg1 hown (by decide)
      rintro e w2 (⟨n, t2, hn, rfl, hr2, hg2⟩ | ⟨hn, ⟨l', rfl⟩, hg2⟩)
      · have hown2 := own_kept hr1 hg2 hown1 (by decide)
        have hz := (grown_trans hgr (grown_trans hg1 hg2)).size
        have hvl := Code.value_some hn
        have HS : Hid (∀ o, Code.PhiOf t2 o → Code.PhiOf s (o.map fun p => (of ++ [n] ++ p.1, p.2))) := hide fun o ho => by
          have := hsp.out _ (Code.PhiOf.more HC.out hn ho)
          cases o with
          | none => exact this
          | some q => simpa using this
        clear hsp hn
        go_wp2_with (first | (at_builtin; refine wpList_append_own _ rfl _ _ 31 rfl w.heap.size 3 i0 (.int .i64 0) 1 8 Tryd.underlying31 hi hz0 hz1 hz2 rfl (by decide) _ _ _ rfl (hown2.alloc _) ⟨_, 0, none⟩ 1 1 [.int .i64 n] rfl rfl (cell_one_new _ _ _) (fun x hx => by simp at hx; subst hx; rfl) (by unfold maxLen; omega) (by omega) (by simp; omega) ?_; intro v' w3 hown' hgrow3 hnil3))
        have hr3 : RdF w3 rb t2 l a := stay_grown (hown2.alloc _) hgrow3 (stay_alloc hr2) (by decide)
        refine ⟨⟨of ++ [n], t2, by simp; omega, ?_, hr3, grown_app (grown_trans hgr (grown_trans hg1 hg2)) hgrow3 (fun q hq => (hown2.lt q hq).1), HS⟩, ?_⟩
        · rw [nats_snoc, List.length_append]; exact hown'
        · rw [hm0.out, restLen_of hr3]; omega
      · have HS : Hid (Code.PhiOf s none) := hide (hsp.out _ (Code.PhiOf.bad HC.out hn))
        go_wp2
        exact ⟨rfl, Or.inr ⟨HS.out, ⟨l', rfl⟩, grown_trans hgr (grown_trans hg1 hg2)⟩⟩
end Go.Proofs.YtdffpkmabehfbaaDoor
