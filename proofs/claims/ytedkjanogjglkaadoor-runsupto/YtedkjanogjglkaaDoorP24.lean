/-
  Walks: chisellaw.ran, run and Runs.
-/
import Derived.Test.YtedkjanogjglkaaDoorP23
import Derived.Test.YtedkjanogjglkaaDoorP20
import Derived.Test.YtedkjanogjglkaaDoorP09

namespace Go.Proofs.YtedkjanogjglkaaDoor
open Go.RowKit
open D (IntsAt RunPost GoodRun)

namespace Code
/-- How a run ends, reckoned: at most d blocks. -/
def endsF (args : List Int) (bks : List Blk) (fu : Nat) : Nat → Nat → Nat → List Int → Nat → Option (Int × Nat × Int)
  | 0, _, _, _, _ => none
  | d + 1, at_, place, V, st => match bks[at_]? with
    | none => none
    | some b => match runVals args V place fu b.values V st with
      | .fuel _ st' => some (0, st', 5)
      | .trap _ st' => some (0, st', 4)
      | .ok V' st' => if st' < fu then (match b.last with
        | .ret v => some (V'.getD v 0, st' + 1, 0)
        | .jump t => endsF args bks fu d t ((edges bks).places at_ 0) V' (st' + 1)
        | .ifs v x y => if V'.getD v 0 = 0 then endsF args bks fu d y ((edges bks).places at_ 1) V' (st' + 1) else endsF args bks fu d x ((edges bks).places at_ 0) V' (st' + 1)) else some (0, st', 5)

theorem endsF_sound (args : List Int) (bks : List Blk) (fu : Nat) : ∀ (d at_ place : Nat) (V : List Int) (st : Nat) (r : Int) (n : Nat) (e : Int), endsF args bks fu d at_ place V st = some (r, n, e) → Ends args bks fu at_ place V st r n e
  | 0, _, _, _, _, _, _, _, h => by cases h
  | d + 1, at_, place, V, st, r, n, e, h => by
    rw [endsF] at h
    cases hb : bks[at_]? with
    | none => rw [hb] at h; cases h
    | some b =>
      rw [hb] at h
      simp only at h
      cases hv : runVals args V place fu b.values V st with
      | fuel V' st' => rw [hv] at h; simp only [Option.some.injEq, Prod.mk.injEq] at h; obtain ⟨rfl, rfl, rfl⟩ := h; exact .fuelV hb hv
      | trap V' st' => rw [hv] at h; simp only [Option.some.injEq, Prod.mk.injEq] at h; obtain ⟨rfl, rfl, rfl⟩ := h; exact .trap hb hv
      | ok V' st' =>
        rw [hv] at h
        simp only at h
        by_cases hf : st' < fu
        · rw [if_pos hf] at h
          cases hl : b.last with
          | ret v => rw [hl] at h; simp only [Option.some.injEq, Prod.mk.injEq] at h; obtain ⟨rfl, rfl, rfl⟩ := h; exact .ret hb hv hf hl
          | jump t => rw [hl] at h; exact .jump hb hv hf hl (endsF_sound args bks fu d _ _ _ _ _ _ _ h)
          | ifs v x y =>
            rw [hl] at h
            simp only at h
            by_cases hz : V'.getD v 0 = 0
            · rw [if_pos hz] at h; exact .no hb hv hf hl hz (endsF_sound args bks fu d _ _ _ _ _ _ _ h)
            · rw [if_neg hz] at h; exact .yes hb hv hf hl hz (endsF_sound args bks fu d _ _ _ _ _ _ _ h)
        · rw [if_neg hf] at h; simp only [Option.some.injEq, Prod.mk.injEq] at h; obtain ⟨rfl, rfl, rfl⟩ := h; exact .fuelL hb hv (by omega)

set_option maxRecDepth 100000 in
theorem ends4 : Ends [4] fnL1.blocks 100 0 0 zeros 0 10 32 0 := endsF_sound _ _ _ 20 _ _ _ _ _ _ _ (by kernel_rfl)
end Code

theorem run4 (av : Value) (w : World) (ht : Tab w) (hav : w.ownsRow 0 3 1 av 1 (ints [4])) :
    Calls Tryd.prog 18 #[.string (bs Code.textL1), av, .int .i64 100] w fun e w' => e = .returned (.tuple #[.int .i64 10, .int .i64 32, .int .i64 0]) ∧ Below w.heap.size w w' :=
  irRun_at Code.textL1 Code.fnL1 av [4] 100 w 10 32 0 (of_decide_eq_true (by kernel_rfl)) ht Code.isL1 Code.rightL1 hav rfl (fun x hx => by rw [List.mem_singleton.1 hx]; omega) (show 1 ≤ 100000 by omega) (by omega) (Code.runsL1 [4] rfl) Code.ends4

set_option maxRecDepth 100000 in
set_option maxHeartbeats 2000000 in
theorem ran_any (w : World) (ht : Tab w) :
    Calls Tryd.prog 13 #[] w fun e w' => e = .returned (.bool true) ∧ Below w.heap.size w w' := by
  have HT := hide ht
  clear ht
  go_enter Tryd.func13, Tryd.ntmps13
  go_wp2_with fail
  have hb1 : Below w.heap.size w (w.alloc (.cells #[.int .i64 5] 3)) := below_al (Below.refl _ _) _
  refine (runW1 _ _ (HT.out.below hb1) (own_ints1 w 5 rfl (Nat.zero_le _))).mono ?_
  rintro e w1 ⟨rfl, h1⟩
  have hb2 : Below w.heap.size w w1 := hb1.trans (h1.mono hb1.size)
  clear h1 hb1
  go_wp2_with fail
  have hb3 : Below w.heap.size w (w1.alloc (.cells #[.int .i64 4] 3)) := below_al hb2 _
  refine (run4 _ _ (HT.out.below hb3) (own_ints1 w1 4 rfl (Nat.zero_le _))).mono ?_
  rintro e w2 ⟨rfl, h2⟩
  have hb4 : Below w.heap.size w w2 := hb3.trans (h2.mono hb3.size)
  clear h2 hb2 hb3
  go_wp2
  go_ret
  exact ⟨rfl, hb4⟩

theorem own_prefix {w : World} {base e g n cap : Nat} {xs ys : List Value} (h : w.ownsRow base e 1 (.slice (some ⟨g, 0, none⟩) (n + 2) cap) (n + 2) (xs ++ ys)) (hx : xs.length = n) : w.ownsRow 0 e 1 (.slice (some ⟨g, 0, none⟩) n cap) n xs ∧ n + 2 ≤ cap ∧ cap ≤ maxLen := by
  rcases h.2 with ⟨h0, _⟩ | ⟨g', cap', cur, hv, _, hb, h1, h2, h3, h4⟩
  · cases h0
  · simp only [Value.slice.injEq, Option.some.injEq, Addr.mk.injEq, and_true, true_and] at hv
    obtain ⟨rfl, rfl⟩ := hv
    refine ⟨⟨by omega, Or.inr ⟨g, cap, cur, rfl, Nat.zero_le _, hb, by omega, h2, h3, ?_⟩⟩, h1, h2⟩
    have h5 : (cur.toList.take ((n + 2) * 1)).take (n * 1) = (xs ++ ys).take (n * 1) := by rw [h4]
    rw [List.take_take, Nat.min_eq_left (by omega)] at h5
    rw [h5, List.take_append_of_le_length (by omega), List.take_of_length_le (by omega)]

/-- What both say of a run is the same. -/
theorem RunPost.det {f : Code.Fn} {args : List Int} {fuel : Int} {e e' : Ending} (h : RunPost e f args fuel) (h' : RunPost e' f args fuel) : ∃ (r n er : Int), e = .returned (.tuple #[.int .i64 r, .int .i64 n, .int .i64 er]) ∧ e' = .returned (.tuple #[.int .i64 r, .int .i64 n, .int .i64 er]) := by
  rcases h with ⟨hb, rfl⟩ | ⟨hg, r, n, er, hE, rfl⟩
  · rcases h' with ⟨_, rfl⟩ | ⟨hg, _⟩
    · exact ⟨0, 0, 3, rfl, rfl⟩
    · exact absurd hg hb
  · rcases h' with ⟨hb, _⟩ | ⟨_, r', n', er', hE', rfl⟩
    · exact absurd hg hb
    · obtain ⟨rfl, rfl, rfl⟩ := hE.det hE'
      exact ⟨r, n, er, rfl, rfl⟩

theorem RunPost.shape {f : Code.Fn} {args : List Int} {fuel : Int} {e : Ending} (h : RunPost e f args fuel) : ∃ (r n er : Int), e = .returned (.tuple #[.int .i64 r, .int .i64 n, .int .i64 er]) := by
  obtain ⟨r, n, er, h1, _⟩ := RunPost.det h h
  exact ⟨r, n, er, h1⟩

set_option maxRecDepth 100000 in
set_option maxHeartbeats 4000000 in
theorem lawRun_any (s : ByteArray) (args : List Int) (pr : Option Addr) (cr : Nat) (fuel : Int) (w : World) (ht : Tab w) (hs : s.size ≤ 16777000) (har : IntsAt w pr args) (hnil : pr = none → args.length = 0 ∧ cr = 0) (hl : args.length ≤ 16777216) :
    Calls Tryd.prog 14 #[.string s, .slice pr args.length cr, .int .i64 fuel] w fun e w' => e = .returned (.bool true) ∧ Below w.heap.size w w' := by
  have HT := hide ht
  have HAR := hide har
  have HNIL := hide hnil
  clear ht har hnil
  go_enter Tryd.func14, Tryd.ntmps14
  go_wp2_with fail
  refine (lend_any args pr cr w HAR.out HNIL.out hl).mono ?_
  rintro e w1 ⟨g, cap, rfl, hown, hb1⟩
  obtain ⟨hpre, hcap, hmax⟩ := own_prefix hown (ints_length args)
  have HPRE := hide hpre
  have HOWN := hide hown
  have hcap' : (args.length : Int) ≤ (cap : Int) := by omega
  clear hpre hown
  go_wp2_with fail
  refine (irRun_any s (.slice (some ⟨g, 0, none⟩) args.length cap) args fuel w1 (HT.out.below hb1) HPRE.out).mono ?_
  rintro e w2 ⟨hirun, hb2⟩
  have hbw2 : Below w.heap.size w w2 := hb1.trans (hb2.mono hb1.size)
  have HAS := hide (as_any args pr cr g cap w.heap.size w2 (HAR.out.below hbw2) hl (own_below HOWN.out hb2))
  have HRD : Hid (∀ w3, Calls Tryd.prog 8 #[.string s] w3 (D.ReadPost s w3)) := hide fun w3 => D.read_any s w3 hs
  rcases hirun with ⟨er, hE, rfl⟩ | ⟨f, k1, k2, k3, hpost⟩
  · have HE := hide hE
    have hne : (er != 0) = true := by rcases hE.range with rfl | rfl <;> rfl
    have HNUM := hide (fun w' => num_any er w')
    clear hE
    go_wp2_with fail
    refine HAS.out.mono ?_
    rintro e w3 ⟨rfl, hb3⟩
    have hbw3 : Below w.heap.size w w3 := hbw2.trans (hb3.mono hbw2.size)
    go_wp2_with fail
    refine (HRD.out w3).mono ?_
    rintro e w4 ⟨⟨er2, hE2, rfl⟩ | ⟨g', fb, h1, h2, h3, h4, _⟩, hb4⟩
    case inr =>
      obtain ⟨hfn, hrt⟩ := Code.right_of h3 (by rw [← h1]; exact h2) h4
      rw [← h1] at hfn
      exact (HE.out.not h2 hfn hrt).elim
    obtain rfl := hE2.det HE.out
    have hbw4 : Below w.heap.size w w4 := hbw3.trans (hb4.mono hbw3.size)
    clear hE2
    go_wp2_with (first | (go_at_call 11; refine (HNUM.out _).mono ?_; rintro e w4 ⟨rfl, rfl⟩))
    go_ret
    exact ⟨rfl, hbw4⟩
  · obtain ⟨r, n, er, rfl⟩ := RunPost.shape hpost
    have HPOST := hide hpost
    have HK := hide (And.intro k1 (And.intro k2 k3))
    clear hpost k1 k2 k3
    go_wp2_with fail
    refine HAS.out.mono ?_
    rintro e w3 ⟨rfl, hb3⟩
    have hbw3 : Below w.heap.size w w3 := hbw2.trans (hb3.mono hbw2.size)
    go_wp2_with fail
    refine (HRD.out w3).mono ?_
    rintro e w4 ⟨⟨er2, hE2, _⟩ | ⟨g', fb, h1, h2, h3, h4, rfl, hfb, hrep⟩, hb4⟩
    case inl => exact (hE2.not HK.out.1 HK.out.2.1 HK.out.2.2).elim
    obtain ⟨hfn, hrt⟩ := Code.right_of h3 (by rw [← h1]; exact h2) h4
    rw [← h1] at hfn
    obtain rfl := Code.FnIs.det HK.out.2.1 hfn h2
    have hbw4 : Below w.heap.size w w4 := hbw3.trans (hb4.mono hbw3.size)
    have HFR := hide (D.frun_any f fb args pr cr fuel w4 hrep h3 hrt (HAR.out.below hbw4))
    clear h1 h2 h3 h4 hfn hrt hrep
    go_wp2_with fail
    refine HFR.out.mono ?_
    rintro e w5 ⟨hb5, hp5⟩
    obtain ⟨r', n', er', h6, rfl⟩ := RunPost.det HPOST.out hp5
    simp only [Ending.returned.injEq, Value.tuple.injEq, Array.mk.injEq, List.cons.injEq, Value.int.injEq, true_and, and_true] at h6
    obtain ⟨rfl, rfl, rfl⟩ := h6
    have hbw5 : Below w.heap.size w w5 := hbw4.trans (hb5.mono hbw4.size)
    have HNUM := hide (fun w' => num_any er w')
    clear hp5
    go_wp2_with (first | (go_at_call 11; refine (HNUM.out _).mono ?_; rintro e w5 ⟨rfl, rfl⟩))
    go_ret
    exact ⟨rfl, hbw5⟩

set_option maxHeartbeats 2000000 in
theorem runs_any (s : ByteArray) (args : List Int) (pr : Option Addr) (cr : Nat) (fuel : Int) (w : World) (ht : Tab w) (hs : s.size ≤ 16777000) (har : IntsAt w pr args) (hnil : pr = none → args.length = 0 ∧ cr = 0) (hl : args.length ≤ 16777216) :
    Calls Tryd.prog 4 #[.string s, .slice pr args.length cr, .int .i64 fuel] w fun e w' => e = .returned (.bool true) ∧ Below w.heap.size w w' := by
  have HT := hide ht
  have HAR := hide har
  have HNIL := hide hnil
  clear ht har hnil
  go_enter Tryd.func4, Tryd.ntmps4
  go_wp2_with fail
  refine (ran_any w HT.out).mono ?_
  rintro e w1 ⟨rfl, hb1⟩
  go_wp2_with fail
  refine (lawRun_any s args pr cr fuel w1 (HT.out.below hb1) hs (HAR.out.below hb1) HNIL.out hl).mono ?_
  rintro e w2 ⟨rfl, h2⟩
  have hb2 : Below w.heap.size w w2 := hb1.trans (h2.mono hb1.size)
  clear h2
  go_wp2_with fail
  refine (lawRun_any s args pr cr 2000 w2 (HT.out.below hb2) hs (HAR.out.below hb2) HNIL.out hl).mono ?_
  rintro e w3 ⟨rfl, h3⟩
  have hb3 : Below w.heap.size w w3 := hb2.trans (h3.mono hb2.size)
  clear h3
  go_wp2
  go_ret
  exact ⟨rfl, hb3⟩
end Go.Proofs.YtedkjanogjglkaaDoor
