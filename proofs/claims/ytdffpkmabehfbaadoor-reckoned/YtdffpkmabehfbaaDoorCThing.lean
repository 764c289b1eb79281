/-
  Walk: code.reader.thing.
-/
import Derived.Test.YtdffpkmabehfbaaDoorCApply
import Derived.Deep.RegionWith
namespace Go.Proofs.YtdffpkmabehfbaaDoor
open Go.RowKit

/-- A thing, as a value: its numbers are a row of its own. -/
def ThingV (w : World) (base : Nat) : Code.Thing → Value → Prop
  | .phi of, v => ∃ r, v = .iface 90 (.agg #[r]) ∧ w.ownsRow base 3 1 r of.length (nats of)
  | .arg n, v => v = .iface 92 (.agg #[.int .i64 (n : Nat)])
  | .const n, v => v = .iface 94 (.agg #[.int .i32 n])
  | .apply k of, v => ∃ r, v = .iface 97 (.agg #[.int .i64 (k : Nat), r]) ∧ w.ownsRow base 3 1 r of.length (nats of)

namespace Code
theorem signed_length {s t : List UInt8} {n : Int} (h : signed s = some (n, t)) : t.length < s.length ∧ -2147483648 ≤ n ∧ n ≤ 2147483647 := by
  have key : ∀ (b : Bool) (p : Nat × List UInt8), signedOf b p = some (n, t) → t = p.2 ∧ -2147483648 ≤ n ∧ n ≤ 2147483647 := by
    intro b p h
    obtain ⟨m, r⟩ := p
    cases b
    · by_cases hm : m ≤ 2147483647
      · rw [signedOf_plus hm] at h
        simp only [Option.some.injEq, Prod.mk.injEq] at h
        rw [← h.1, ← h.2]
        exact ⟨rfl, by omega, by omega⟩
      · rw [signedOf_plus_big (by omega)] at h; cases h
    · by_cases h0 : m = 0
      · rw [signedOf_zero h0] at h; cases h
      · by_cases hm : m ≤ 2147483648
        · rw [signedOf_minus (by omega) hm] at h
          simp only [Option.some.injEq, Prod.mk.injEq] at h
          rw [← h.1, ← h.2]
          exact ⟨rfl, by omega, by omega⟩
        · rw [signedOf_minus_big (by omega)] at h; cases h
  unfold signed at h
  split at h
  · rename_i r hr
    have h1 := cut_length hr
    cases hn : number r with
    | none => rw [hn] at h; cases h
    | some p =>
      rw [hn] at h
      have h2 := key _ _ h
      have h3 := number_length (show number r = some (p.1, p.2) from hn)
      rw [h2.1]
      exact ⟨by omega, h2.2⟩
  · cases hn : number s with
    | none => rw [hn] at h; cases h
    | some p =>
      rw [hn] at h
      have h2 := key _ _ h
      have h3 := number_length (show number s = some (p.1, p.2) from hn)
      rw [h2.1]
      exact ⟨by omega, h2.2⟩
end Code

set_option maxRecDepth 100000 in
set_option maxHeartbeats 2000000 in
theorem thing_any (rb : Nat) (s : List UInt8) (l : Int) (a : Nat) (w : World) (hr : RdF w rb s l a) (hs : s.length ≤ 3000) (ht : Tab w) (hrb : 0 < rb)
    (hok : Code.word s = Code.sArg → ∀ r, Code.cut [32] (Code.behind s) = some r → Code.below a r ≠ none) :
    Calls Tryd.prog 57 #[.pointer (some ⟨rb, 0, none⟩)] w fun e w' =>
      (∃ y t v, Code.ThingOf a s (some (y, t)) ∧ e = .returned v ∧ ThingV w' w.heap.size y v ∧ RdF w' rb t l a ∧ t.length ≤ s.length ∧ w.grownBy w' (some rb)) ∨
      (Code.ThingOf a s none ∧ Fails w rb 1 e w') := by
  have hlb0 : (Code.behind s).length ≤ s.length := Code.rest_length _ _ _
  have hlb : (Code.behind s).length ≤ 3000 := by omega
  have HOKA := hide hok
  clear hok
  by_cases h1 : Code.word s = Code.sPhi
  · have HP : Hid (∀ o, Code.PhiOf (Code.behind s) o → Code.ThingOf a s (o.map fun p => (.phi p.1, p.2))) := hide fun o ho => Code.ThingOf.phi h1 ho
    have q1 := word_yes h1
    unfold Code.sPhi at q1
    clear h1
    go_enter Tryd.func57, Tryd.ntmps57
    go_wp2_with fail
    refine (letters_any rb _ s l 1 _ w hr hs).mono ?_
    rintro e w1 ⟨rfl, hr1, hg1⟩
    generalize Code.word s = ww at *
    generalize Code.behind s = bb at *
    go_wp2_with fail
    refine (phiValues_any rb bb l a w1 hr1 hlb).mono ?_
    rintro e w2 (⟨of, t, v, hc, rfl, hown, hr2, hlt, hg2⟩ | ⟨hc, ⟨l', rfl⟩, hg2⟩)
    case inr =>
      go_wp2
      exact ⟨rfl, Or.inr ⟨HP.out _ hc, ⟨l', rfl⟩, grown_trans hg1 hg2⟩⟩
    have HC := hide (HP.out _ hc)
    have hown' := own_base hown hg1.size
    clear hc hown
    obtain ⟨p, c, rfl⟩ := own_slice hown'
    go_wp2
    go_ret
    exact Or.inl ⟨.phi of, t, _, HC.out, rfl, ⟨_, rfl, hown'⟩, hr2, by omega, grown_trans hg1 hg2⟩
  by_cases h2 : Code.word s = Code.sArg
  · have HP := hide (Code.ThingOf.arg (args := a) h2)
    have HOK0 := hide (HOKA.out h2)
    have q1 := word_no h1
    have q2 := word_yes h2
    unfold Code.sPhi at q1
    unfold Code.sArg at q2
    clear h1 h2
    go_enter Tryd.func57, Tryd.ntmps57
    go_wp2_with fail
    refine (letters_any rb _ s l 1 _ w hr hs).mono ?_
    rintro e w1 ⟨rfl, hr1, hg1⟩
    generalize Code.word s = ww at *
    generalize Code.behind s = bb at *
    go_wp2_with fail
    refine (take_any rb _ bb [32] l 1 _ w1 hr1 hlb (by simp)).mono ?_
    rintro e w2 (⟨r2, hc, rfl, hr2, hg2⟩ | ⟨hc, ⟨l', rfl⟩, hg2⟩)
    case inr =>
      have HC := HP.out
      rw [hc] at HC
      go_wp2
      exact ⟨rfl, Or.inr ⟨HC, ⟨l', rfl⟩, grown_trans hg1 hg2⟩⟩
    have H2 : Hid (Code.ThingOf a s ((Code.below a r2).map fun p => (.arg p.1, p.2))) := by
      have h := HP.out
      rw [hc] at h
      exact h
    have l2 := Code.cut_length hc
    simp only [List.length_cons, List.length_nil] at l2
    have HOK := hide (HOK0.out r2 hc)
    clear hc HP
    have c3 := hr2.c3
    have HB := hide (fun (w' : World) (h : RdF w' rb r2 l a) => below_any rb _ r2 l 1 a _ w' h (by omega))
    cases hb : Code.below a r2 with
    | none => exact absurd hb HOK.out
    | some q =>
      obtain ⟨x, r3⟩ := q
      have l3 := (Code.below_some hb).2
      rw [hb] at H2
      have HB' : Hid (∀ (w' : World), RdF w' rb r2 l a → Calls Tryd.prog 29 #[.pointer (some ⟨rb, 0, none⟩), .int .i64 (a : Nat)] w' fun e w'' => e = .returned (.int .i64 (x : Nat)) ∧ RdF w'' rb r3 l a ∧ w'.grownBy w'' (some rb)) := hide fun w' h => by
        refine (HB.out w' h).mono ?_
        rw [hb]
        rintro e w'' (⟨_, _, h', rfl, h2, h3⟩ | ⟨h', _⟩)
        · cases h'; exact ⟨rfl, h2, h3⟩
        · cases h'
      clear HB hb
      go_wp2_with fail
      go_region_held3 (fun w' => w'.cell? ⟨rb, 3, none⟩ = some (.int .i64 (a : Nat))) (go_keep) (first | (go_at_call 29; refine (HB'.out _ ?_).mono ?_; (exact hr2); rintro e w3 ⟨rfl, hr3, hg3⟩; have c3' := hr3.c3))
      go_wp2
      go_ret
      exact Or.inl ⟨.arg x, r3, _, H2.out, rfl, rfl, hr3, by omega, grown_trans hg1 (grown_trans hg2 (undrew hg3))⟩
  by_cases h3 : Code.word s = Code.sConst
  · have HP := hide (Code.ThingOf.const (args := a) h3)
    have q1 := word_no h1
    have q2 := word_no h2
    have q3 := word_yes h3
    unfold Code.sPhi at q1
    unfold Code.sArg at q2
    unfold Code.sConst at q3
    clear h1 h2 h3
    go_enter Tryd.func57, Tryd.ntmps57
    go_wp2_with fail
    refine (letters_any rb _ s l 1 _ w hr hs).mono ?_
    rintro e w1 ⟨rfl, hr1, hg1⟩
    generalize Code.word s = ww at *
    generalize Code.behind s = bb at *
    go_wp2_with fail
    refine (take_any rb _ bb [32] l 1 _ w1 hr1 hlb (by simp)).mono ?_
    rintro e w2 (⟨r2, hc, rfl, hr2, hg2⟩ | ⟨hc, ⟨l', rfl⟩, hg2⟩)
    case inr =>
      have HC := HP.out
      rw [hc] at HC
      go_wp2
      exact ⟨rfl, Or.inr ⟨HC, ⟨l', rfl⟩, grown_trans hg1 hg2⟩⟩
    have H2 : Hid (Code.ThingOf a s ((Code.signed r2).map fun p => (.const p.1, p.2))) := by
      have h := HP.out
      rw [hc] at h
      exact h
    have l2 := Code.cut_length hc
    simp only [List.length_cons, List.length_nil] at l2
    clear hc HP
    go_wp2_with fail
    refine (signed_any rb _ r2 l 1 _ w2 hr2 (by omega)).mono ?_
    rintro e w3 (⟨x, r3, hc, rfl, hr3, hg3⟩ | ⟨hc, ⟨l', rfl⟩, hg3⟩)
    case inr =>
      have HC := H2.out
      rw [hc] at HC
      go_wp2
      exact ⟨rfl, Or.inr ⟨HC, ⟨l', rfl⟩, grown_trans hg1 (grown_trans hg2 hg3)⟩⟩
    have l3 := (Code.signed_length hc).1
    rw [hc] at H2
    clear hc
    go_wp2
    go_ret
    exact Or.inl ⟨.const x, r3, _, H2.out, rfl, rfl, hr3, by omega, grown_trans hg1 (grown_trans hg2 hg3)⟩
  · have HP := hide (Code.ThingOf.apply (args := a) h1 h2 h3)
    have q1 := word_no h1
    have q2 := word_no h2
    have q3 := word_no h3
    unfold Code.sPhi at q1
    unfold Code.sArg at q2
    unfold Code.sConst at q3
    clear h1 h2 h3
    go_enter Tryd.func57, Tryd.ntmps57
    go_wp2_with fail
    refine (letters_any rb _ s l 1 _ w hr hs).mono ?_
    rintro e w1 ⟨rfl, hr1, hg1⟩
    have ht1 := ht.grown hg1 hrb
    generalize Code.word s = ww at *
    generalize Code.behind s = bb at *
    go_wp2_with fail
    refine (apply_any rb ww bb l a w1 hr1 hlb ht1 hrb).mono ?_
    rintro e w2 (⟨k, of, t, v, hc, rfl, hown, hr2, hlt, hg2⟩ | ⟨hc, ⟨l', rfl⟩, hg2⟩)
    case inr =>
      have HC := HP.out
      rw [hc] at HC
      go_wp2
      exact ⟨rfl, Or.inr ⟨HC, ⟨l', rfl⟩, grown_trans hg1 hg2⟩⟩
    rw [hc] at HP
    have hown' := own_base hown hg1.size
    clear hc hown ht1
    obtain ⟨p, c, rfl⟩ := own_slice hown'
    go_wp2
    go_ret
    exact Or.inl ⟨.apply k of, t, _, HP.out, rfl, ⟨_, rfl, hown'⟩, hr2, by omega, grown_trans hg1 hg2⟩

namespace Code
theorem ThingOf.det {a : Nat} {s : List UInt8} {o o' : Option (Thing × List UInt8)} (h : ThingOf a s o) (h' : ThingOf a s o') : o = o' := by
  cases h with
  | phi h1 h2 => cases h' with
    | phi _ g2 => rw [h2.det g2]
    | arg g1 => rw [h1] at g1; cases g1
    | const g1 => rw [h1] at g1; cases g1
    | apply g1 _ _ => exact absurd h1 g1
  | arg h1 => cases h' with
    | phi g1 _ => rw [h1] at g1; cases g1
    | arg _ => rfl
    | const g1 => rw [h1] at g1; cases g1
    | apply _ g1 _ => exact absurd h1 g1
  | const h1 => cases h' with
    | phi g1 _ => rw [h1] at g1; cases g1
    | arg g1 => rw [h1] at g1; cases g1
    | const _ => rfl
    | apply _ _ g1 => exact absurd h1 g1
  | apply h1 h2 h3 => cases h' with
    | phi g1 _ => exact absurd g1 h1
    | arg g1 => exact absurd g1 h2
    | const g1 => exact absurd g1 h3
    | apply _ _ _ => rfl

theorem ThingOf.argOk {a : Nat} {s t : List UInt8} {y : Thing} (h : ThingOf a s (some (y, t))) : word s = sArg → ∀ r, cut [32] (behind s) = some r → below a r ≠ none := by
  intro h1 r hr hb
  have := h.det (ThingOf.arg h1)
  rw [hr] at this
  simp only [Option.bind_some] at this
  rw [hb] at this
  cases this
end Code

theorem thing_ok (rb : Nat) (s t : List UInt8) (y : Code.Thing) (l : Int) (a : Nat) (w : World) (hr : RdF w rb s l a) (hs : s.length ≤ 3000) (ht : Tab w) (hrb : 0 < rb) (hy : Code.ThingOf a s (some (y, t))) :
    Calls Tryd.prog 57 #[.pointer (some ⟨rb, 0, none⟩)] w fun e w' =>
      ∃ v, e = .returned v ∧ ThingV w' w.heap.size y v ∧ RdF w' rb t l a ∧ t.length ≤ s.length ∧ w.grownBy w' (some rb) := by
  refine (thing_any rb s l a w hr hs ht hrb hy.argOk).mono ?_
  rintro e w' (⟨y', t', v, h1, rfl, h2, h3, h4, h5⟩ | ⟨h1, _⟩)
  · have := hy.det h1
    simp only [Option.some.injEq, Prod.mk.injEq] at this
    obtain ⟨rfl, rfl⟩ := this
    exact ⟨v, rfl, h2, h3, h4, h5⟩
  · cases hy.det h1
end Go.Proofs.YtdffpkmabehfbaaDoor
