/-
  Walk: code.machine.run, code.Function.Run.
-/
import Derived.Test.YtdffpkmabehfbaaDoorCVals
namespace Go.Proofs.YtdffpkmabehfbaaDoor
open Go.RowKit

namespace Code
/-- How a run goes on from the beginning of a block: how it ends. -/
inductive Ends (args : List Int) (bks : List Blk) (fu : Nat) : Nat → Nat → List Int → Nat → Int → Nat → Int → Prop
  | fuelV {at_ place st st' : Nat} {V V' : List Int} {b : Blk} : bks[at_]? = some b → runVals args V place fu b.values V st = .fuel V' st' → Ends args bks fu at_ place V st 0 st' 5
  | trap {at_ place st st' : Nat} {V V' : List Int} {b : Blk} : bks[at_]? = some b → runVals args V place fu b.values V st = .trap V' st' → Ends args bks fu at_ place V st 0 st' 4
  | fuelL {at_ place st st' : Nat} {V V' : List Int} {b : Blk} : bks[at_]? = some b → runVals args V place fu b.values V st = .ok V' st' → fu ≤ st' → Ends args bks fu at_ place V st 0 st' 5
  | ret {at_ place st st' : Nat} {V V' : List Int} {b : Blk} {v : Nat} : bks[at_]? = some b → runVals args V place fu b.values V st = .ok V' st' → st' < fu → b.last = .ret v → Ends args bks fu at_ place V st (V'.getD v 0) (st' + 1) 0
  | jump {at_ place st st' t : Nat} {V V' : List Int} {b : Blk} {r : Int} {n : Nat} {e : Int} : bks[at_]? = some b → runVals args V place fu b.values V st = .ok V' st' → st' < fu → b.last = .jump t →
      Ends args bks fu t ((edges bks).places at_ 0) V' (st' + 1) r n e → Ends args bks fu at_ place V st r n e
  | yes {at_ place st st' v x y : Nat} {V V' : List Int} {b : Blk} {r : Int} {n : Nat} {e : Int} : bks[at_]? = some b → runVals args V place fu b.values V st = .ok V' st' → st' < fu → b.last = .ifs v x y → V'.getD v 0 ≠ 0 →
      Ends args bks fu x ((edges bks).places at_ 0) V' (st' + 1) r n e → Ends args bks fu at_ place V st r n e
  | no {at_ place st st' v x y : Nat} {V V' : List Int} {b : Blk} {r : Int} {n : Nat} {e : Int} : bks[at_]? = some b → runVals args V place fu b.values V st = .ok V' st' → st' < fu → b.last = .ifs v x y → V'.getD v 0 = 0 →
      Ends args bks fu y ((edges bks).places at_ 1) V' (st' + 1) r n e → Ends args bks fu at_ place V st r n e

theorem runVals_steps {args V0 : List Int} {place fu : Nat} : ∀ (l : List Val) (V V' : List Int) (st st' : Nat), runVals args V0 place fu l V st = .ok V' st' → st ≤ st'
  | [], V, V', st, st', h => by simp only [runVals, Out.ok.injEq] at h; omega
  | v :: l, V, V', st, st', h => by
    unfold runVals at h
    split at h
    · split at h
      · have := runVals_steps l _ _ _ _ h; omega
      · cases h
    · cases h
end Code

theorem oneIf_any (b : Bool) (w : World) :
    Calls Tryd.prog 26 #[.bool b] w fun e w' => e = .returned (.int .i32 (Code.truth b)) ∧ w' = w := by
  cases b
  · go_enter Tryd.func26, Tryd.ntmps26
    go_wp2
    go_ret
    exact ⟨rfl, rfl⟩
  · go_enter Tryd.func26, Tryd.ntmps26
    go_wp2
    go_ret
    exact ⟨rfl, rfl⟩

/-- How many steps there may still be. -/
def wleft (w : World) (mb fu : Nat) : Nat := match w.cell? ⟨mb, 61, none⟩ with
  | some (.int _ n) => fu - n.toNat
  | _ => 0

theorem wleft_of {w : World} {mb : Nat} {av : Value} {V : List Int} {st fu : Nat} (h : Mach w mb av V st fu) (hV : V.length = 60) : wleft w mb fu = fu - st := by
  simp only [wleft, h.steps hV]
  omega

namespace Code
/-- What the run needs of a function: all that is named is there. -/
structure Runs (args : List Int) (bks : List Blk) : Prop where
  most : bks.length ≤ 8
  some : 0 < bks.length
  lens : ∀ b ∈ bks, b.values.length ≤ 100000
  goes : ∀ b ∈ bks, ∀ t ∈ tg b.last, t < bks.length
  uses : ∀ b ∈ bks, ∀ x ∈ useL b.last, x < 60
  first : ∀ (h : 0 < bks.length), ∀ v ∈ bks[0].values, Fits args 0 v
  others : ∀ j (h : j < bks.length) k (hk : k < (tg bks[j].last).length) (ht : (tg bks[j].last)[k] < bks.length), ∀ v ∈ bks[(tg bks[j].last)[k]].values, Fits args ((edges bks).places j k) v
end Code

set_option maxRecDepth 100000 in
set_option maxHeartbeats 8000000 in
theorem mrun_any (fargs mb : Nat) (av : Value) (args V0 : List Int) (fu : Nat) (bks : List Code.Blk) (p : Option Addr) (c base : Nat) (w : World) (hm : Mach w mb av V0 0 fu) (hV0 : V0.length = 60) (h32 : In32 V0) (hfu : fu ≤ 100000)
    (hav : w.ownsRow 0 3 1 av args.length (ints args)) (hrep : RepBlks w base (.slice p bks.length c) bks) (hr : Code.Runs args bks) :
    Calls Tryd.prog 20 #[.pointer (some ⟨mb, 0, none⟩), .agg #[.int .i64 (fargs : Nat), .slice p bks.length c]] w fun e w' =>
      w.grownBy w' (some mb) ∧ ∃ r n er V, Code.Ends args bks fu 0 0 V0 0 r n er ∧ e = .returned (.tuple #[.int .i32 r, .int .i64 er]) ∧ Mach w' mb av V n fu ∧ V.length = 60 ∧ -2147483648 ≤ r ∧ r < 2147483648 := by
  have HREP := hide hrep
  have HAV := hide hav
  have HM := hide hm
  have HR := hide hr
  have hml := lt_of_block hm
  clear hrep hav hr
  go_enter Tryd.func20, Tryd.ntmps20
  go_wp2_with fail
  generalize hw0 : w.alloc _ = w0
  have hx0 : w0.heap[w.heap.size]? = some (.cells #[.int .i64 (fargs : Nat), .slice p bks.length c] 43) := by rw [← hw0]; exact heap_alloc_new w _
  have hb0 : Below w.heap.size w w0 := by rw [← hw0]; exact below_al (Below.refl _ _) _
  clear hw0
  refine (edges_any fargs bks p c base w0 (HREP.out.below hb0) HR.out.most HR.out.goes).mono ?_
  rintro e w1 ⟨eb, gc, n1, rfl, heb, hgc, hE, _, hb1⟩
  have hx1 := (hb1.block _ (lt_of_block hx0)).trans hx0
  have hbw1 : Below w.heap.size w w1 := hb0.trans (hb1.mono hb0.size)
  have hm1 : Mach w1 mb av V0 0 fu := (hbw1.block _ hml).trans hm
  have hz0 := hb0.size
  have hxl := lt_of_block hx0
  clear hx0 hb0 hb1
  go_wp2_with fail
  go_loopw [8, 9] (fun a8 a9 wr => ∃ (at_ place : Nat) (V : List Int) (st : Nat), at_ < bks.length ∧ a8 = .int .i64 at_ ∧ a9 = .int .i64 place ∧ V.length = 60 ∧ In32 V ∧ Mach wr mb av V st fu ∧ w1.grownBy wr (some mb) ∧
      (∀ (h : at_ < bks.length), ∀ v ∈ bks[at_].values, Code.Fits args place v) ∧ Hid (∀ r n e, Code.Ends args bks fu at_ place V st r n e → Code.Ends args bks fu 0 0 V0 0 r n e)) (fun _ _ wr => wleft wr mb fu)
  case atStart => exact ⟨0, 0, V0, 0, HR.out.some, rfl, rfl, hV0, h32, hm1, grown_refl _ _, HR.out.first, hide fun _ _ _ h => h⟩
  case round =>
    obtain ⟨j, place, V, st, hlt, rfl, rfl, hV, hV32, hmk, hgk, hfits, hsp⟩ := hrel
    have hm0 := hide (wleft_of hmk hV)
    have hgw : w.grownBy wr (some mb) := grown_trans (grown_below hbw1) hgk
    have hxk := kept_block hx1 hgk (by omega)
    have hEk := hE.kept hgk (by simp; omega)
    have hrepk : RepBlks wr base (.slice p bks.length c) bks := HREP.out.keptT HM.out hgw (by decide) (by decide) (by decide)
    have HAVk := hide (own_kept HM.out hgw HAV.out (by decide))
    have HREPk := hide hrepk
    obtain ⟨p', c', hpe, hblk⟩ := hrepk.open
    simp only [Value.slice.injEq] at hpe
    obtain ⟨rfl, _, rfl⟩ := hpe
    obtain ⟨gb, vs, rfl, hg, c0, c1, hvs⟩ := hblk j hlt
    have HVS := hide hvs
    obtain ⟨pv, cv, rfl, _⟩ := hvs.open
    have hxc := blk_cell hxk 1 _ rfl
    have hgetj : bks[j]? = some bks[j] := List.getElem?_eq_getElem hlt
    have HG := hide hgetj
    have hlen := HR.out.lens bks[j] (List.getElem_mem hlt)
    have HGO := hide (HR.out.goes bks[j] (List.getElem_mem hlt))
    have HOT := hide (HR.out.others j hlt)
    have HUS := hide (HR.out.uses bks[j] (List.getElem_mem hlt))
    have HFI := hide (hfits hlt)
    have hjl : (j : Int) < (bks.length : Int) := by omega
    have h8 := HR.out.most
    generalize hbj : bks[j] = bj at *
    obtain ⟨vals, z⟩ := bj
    simp only at c0 c1 hlen
    obtain ⟨T, zv, hzv⟩ := lastV_shape z
    have HZ := hide hzv
    rw [hzv] at c1
    clear hblk hvs hgetj hfits hzv hrepk
    go_wp2_with fail
    generalize hw3 : wr.alloc _ = w3
    have hb3 : Below wr.heap.size wr w3 := by rw [← hw3]; exact below_al (Below.refl _ _) _
    have hcp3 : w3.heap[wr.heap.size]? = some (.cells #[.slice pv vals.length cv, .iface T zv] 72) := by rw [← hw3]; exact heap_alloc_new wr _
    have hmbk := lt_of_block hmk
    have hm3 : Mach w3 mb av V st fu := (hb3.block _ hmbk).trans hmk
    generalize hbb : wr.heap.size = b10 at *
    have hb3' : Below wr.heap.size wr w3 := hbb ▸ hb3
    clear hw3 c0 c1 hxc
    refine (makeValues_any mb av args V st fu vals (.slice pv vals.length cv) place base w3 hm3 hV hV32 hfu (own_below HAVk.out hb3') (HVS.out.below hb3') hlen HFI.out).mono ?_
    rintro e w4 ⟨hg4, ⟨V4, st4, hrv, hV4, hV432, rfl, hm4⟩ | ⟨V4, st4, hrv, rfl, hm4, hV4⟩ | ⟨V4, st4, hrv, rfl, hm4, hV4⟩⟩
    case inr.inl =>
      have HE := hide (hsp.out _ _ _ (Code.Ends.fuelV HG.out hrv))
      clear hrv
      go_wp2
      go_ret2
      exact ⟨grown_trans hgw (grown_trans (grown_below hb3') hg4), 0, st4, 5, V4, HE.out, rfl, hm4, hV4, by omega, by omega⟩
    case inr.inr =>
      have HE := hide (hsp.out _ _ _ (Code.Ends.trap HG.out hrv))
      clear hrv
      go_wp2
      go_ret2
      exact ⟨grown_trans hgw (grown_trans (grown_below hb3') hg4), 0, st4, 4, V4, HE.out, rfl, hm4, hV4, by omega, by omega⟩
    have HRV := hide hrv
    have hst4 := Code.runVals_steps _ _ _ _ _ hrv
    clear hrv
    go_wp2_with fail
    refine (step_any mb av V4 st4 fu w4 hm4 hV4 hfu).mono ?_
    rintro e w5 ⟨hg5, ⟨hlt5, rfl, hm5⟩ | ⟨hge5, rfl, hm5⟩⟩
    case inr =>
      have HE := hide (hsp.out _ _ _ (Code.Ends.fuelL HG.out HRV.out hge5))
      go_wp2
      go_ret2
      exact ⟨grown_trans hgw (grown_trans (grown_below hb3') (grown_trans hg4 hg5)), 0, st4, 5, V4, HE.out, rfl, hm5, hV4, by omega, by omega⟩
    have hgr5 : wr.grownBy w5 (some mb) := grown_trans (grown_below hb3') (grown_trans hg4 hg5)
    have hg15 : w1.grownBy w5 (some mb) := grown_trans hgk hgr5
    have hgw5 : w.grownBy w5 (some mb) := grown_trans hgw hgr5
    have hcp5 := kept_block hcp3 (grown_trans hg4 hg5) (by omega)
    have hE5 := hEk.kept hgr5 (by simp; omega)
    have hml5 := lt_of_block hm5
    have hebl := hE5.lt
    have hcpl := lt_of_block hcp5
    have f1 := blk_cell hcp5 1 _ rfl
    clear hcp3 hm3 hg4 hg5 hm4 hmk hgk hgw hxk hEk HAVk HREPk HVS HFI hb3 hb3'
    cases z with
    | ret v =>
      have hTe := HZ.out
      simp only [lastV, Value.iface.injEq] at hTe
      obtain ⟨rfl, rfl⟩ := hTe
      have hv60 : v < 60 := HUS.out v (by simp [Code.useL])
      have hv60' : (v : Int) < 60 := by omega
      have hta := isRet_ret
      have hcv := hm5.val v (by omega)
      have HE := hide (hsp.out _ _ _ (Code.Ends.ret HG.out HRV.out hlt5 rfl))
      have hgd : V4.getD v 0 = V4[v]'(by omega) := by rw [List.getD_eq_getElem?_getD, List.getElem?_eq_getElem (by omega)]; rfl
      rw [hgd] at HE
      have HB := hide (hV432.get v (by omega))
      clear hgd
      go_wp2_with fail
      go_quiet (fail)
      go_wp2
      go_ret2
      exact ⟨grownN (grown_trans hgw5 (grown_alloc _ _ _)) _, _, st4 + 1, 0, V4, HE.out, rfl, stay_alloc hm5, hV4, HB.out.1, HB.out.2⟩
    | jump t =>
      have hTe := HZ.out
      simp only [lastV, Value.iface.injEq] at hTe
      obtain ⟨rfl, rfl⟩ := hTe
      have hta := isRet_jump
      have htb := isIf_jump
      have htn : t < bks.length := HGO.out t (by simp [Code.tg])
      have HOT' := hide (HOT.out 0 (by simp [Code.tg]) (by simpa [Code.tg] using htn))
      have HEND : Hid (∀ r n e, Code.Ends args bks fu t ((Code.edges bks).places j 0) V4 (st4 + 1) r n e → Code.Ends args bks fu 0 0 V0 0 r n e) := hide fun r n e h => hsp.out r n e (Code.Ends.jump HG.out HRV.out hlt5 rfl h)
      have hlook : (Instr.lookup 65 (.map (some eb)) (.agg #[.int .i64 (j : Nat), .int .i64 0]) false).run Tryd.prog w5 = .ok (.int .i64 ((Code.edges bks).places j 0 : Nat)) w5 := hE5.look j 0 (by omega) (by omega)
      have HTA := hide (targets_any (.jump t))
      rw [HZ.out] at HTA
      generalize (Code.edges bks).places j 0 = pl at *
      go_wp2_with fail
      refine (HTA.out w5).mono ?_
      rintro e w8 ⟨v8, rfl, hown8, hb8⟩
      obtain ⟨p8, c8, rfl, hval8⟩ := nats_open hown8
      obtain ⟨g8, rfl, ct⟩ := hval8 0 (by simp [Code.tg])
      simp only [Code.tg, List.getElem_cons_zero] at ct
      have htgl : (Code.tg (.jump t)).length = 1 := rfl
      have hm8 : Mach w8 mb av V4 (st4 + 1) fu := (hb8.block _ hml5).trans hm5
      clear hval8
      go_wp2
      refine ⟨⟨t, pl, V4, st4 + 1, htn, rfl, rfl, hV4, hV432, hm8, grown_trans hg15 (grown_below hb8), fun _ => HOT'.out, HEND⟩, ?_⟩
      rw [hm0.out, wleft_of hm8 hV4]; omega
    | ifs v x y =>
      have hTe := HZ.out
      simp only [lastV, Value.iface.injEq] at hTe
      obtain ⟨rfl, rfl⟩ := hTe
      have hta := isRet_if
      have htb := isIf_if
      have hv60 : v < 60 := HUS.out v (by simp [Code.useL])
      have hv60' : (v : Int) < 60 := by omega
      have hxn : x < bks.length := HGO.out x (by simp [Code.tg])
      have hyn : y < bks.length := HGO.out y (by simp [Code.tg])
      have HOT0 := hide (HOT.out 0 (by simp [Code.tg]) (by simpa [Code.tg] using hxn))
      have HOT1 := hide (HOT.out 1 (by simp [Code.tg]) (by simpa [Code.tg] using hyn))
      have hcv := hm5.val v (by omega)
      have hgd : V4.getD v 0 = V4[v]'(by omega) := by rw [List.getD_eq_getElem?_getD, List.getElem?_eq_getElem (by omega)]; rfl
      have HEND0 : Hid (V4[v]'(by omega) ≠ 0 → ∀ r n e, Code.Ends args bks fu x ((Code.edges bks).places j 0) V4 (st4 + 1) r n e → Code.Ends args bks fu 0 0 V0 0 r n e) := hide fun hne r n e h => hsp.out r n e (Code.Ends.yes HG.out HRV.out hlt5 rfl (by rw [hgd]; exact hne) h)
      have HEND1 : Hid (V4[v]'(by omega) = 0 → ∀ r n e, Code.Ends args bks fu y ((Code.edges bks).places j 1) V4 (st4 + 1) r n e → Code.Ends args bks fu 0 0 V0 0 r n e) := hide fun hne r n e h => hsp.out r n e (Code.Ends.no HG.out HRV.out hlt5 rfl (by rw [hgd]; exact hne) h)
      have HTA := hide (targets_any (.ifs v x y))
      rw [HZ.out] at HTA
      clear hgd
      generalize V4[v]'(by omega) = xv at *
      go_wp2_with fail
      generalize hw6 : w5.alloc _ = w6
      have hb6 : Below w5.heap.size w5 w6 := by rw [← hw6]; exact below_al (Below.refl _ _) _
      have hn6 : w6.heap[w5.heap.size]? = some (.cells #[.int .i64 (v : Nat), .int .i64 (x : Nat), .int .i64 (y : Nat)] 77) := by rw [← hw6]; exact heap_alloc_new w5 _
      have hm6 : Mach w6 mb av V4 (st4 + 1) fu := (hb6.block _ hml5).trans hm5
      have hcp6 := (hb6.block _ hcpl).trans hcp5
      have hE6 := hE5.below hb6
      have g0 : ∀ w', Below w6.heap.size w6 w' → w'.cell? ⟨w5.heap.size, 0, none⟩ = some (.int .i64 (v : Nat)) := fun w' h => blk_cell ((h.block _ (lt_of_block hn6)).trans hn6) 0 _ rfl
      have hcv6 : ∀ w', Below w6.heap.size w6 w' → w'.cell? ⟨mb, 1 + v, none⟩ = some (.int .i32 xv) := fun w' h => by
        rw [(bcell h).1 mb _ (lt_of_block hm6), (bcell hb6).1 mb _ hml5]; exact hcv
      have htr0 : Code.truth false = 0 := rfl
      have htr1 : Code.truth true = 1 := rfl
      clear hw6 f1
      cases hz : (xv == 0) with
      | false =>
        have hl : (Instr.lookup 65 (.map (some eb)) (.agg #[.int .i64 (j : Nat), .int .i64 0]) false).run Tryd.prog w6.drew = .ok (.int .i64 ((Code.edges bks).places j 0 : Nat)) w6.drew := (hE6.below (Below.refl _ _).drew).look j 0 (by omega) (by omega)
        have HEND := hide (HEND0.out (by simpa using hz))
        have HOTT := hide HOT0.out
        generalize (Code.edges bks).places j 0 = pl at *
        go_region_held3 (fun w' => Below w6.heap.size w6 w') (first | assumption | (repeat' (first | assumption | exact Below.refl _ _ | apply Below.drew))) (first | (go_at_call 26; refine (oneIf_any _ _).mono ?_; rintro e w7 ⟨rfl, rfl⟩))
        have f1 := blk_cell (w := w6.drew) hcp6 1 _ rfl
        go_wp2_with fail
        refine (HTA.out w6.drew).mono ?_
        rintro e w8 ⟨v8, rfl, hown8, hb8⟩
        have hb8' : Below w6.heap.size w6 w8 := undrewB hb8
        obtain ⟨p8, c8, rfl, hval8⟩ := nats_open hown8
        obtain ⟨g8, rfl, ct⟩ := hval8 0 (by simp [Code.tg])
        simp only [Code.tg, List.getElem_cons_zero] at ct
        have htgl : (Code.tg (.ifs v x y)).length = 2 := rfl
        have hm8 : Mach w8 mb av V4 (st4 + 1) fu := (hb8'.block _ (lt_of_block hm6)).trans hm6
        clear hval8
        go_wp2
        refine ⟨⟨x, pl, V4, st4 + 1, hxn, rfl, rfl, hV4, hV432, hm8, grown_trans hg15 (grown_trans (grown_below hb6) (grown_below hb8')), fun _ => HOTT.out, HEND⟩, ?_⟩
        rw [hm0.out, wleft_of hm8 hV4]; omega
      | true =>
        have hl : (Instr.lookup 65 (.map (some eb)) (.agg #[.int .i64 (j : Nat), .int .i64 1]) false).run Tryd.prog w6.drew = .ok (.int .i64 ((Code.edges bks).places j 1 : Nat)) w6.drew := (hE6.below (Below.refl _ _).drew).look j 1 (by omega) (by omega)
        have HEND := hide (HEND1.out (by simpa using hz))
        have HOTT := hide HOT1.out
        generalize (Code.edges bks).places j 1 = pl at *
        go_region_held3 (fun w' => Below w6.heap.size w6 w') (first | assumption | (repeat' (first | assumption | exact Below.refl _ _ | apply Below.drew))) (first | (go_at_call 26; refine (oneIf_any _ _).mono ?_; rintro e w7 ⟨rfl, rfl⟩))
        have f1 := blk_cell (w := w6.drew) hcp6 1 _ rfl
        go_wp2_with fail
        refine (HTA.out w6.drew).mono ?_
        rintro e w8 ⟨v8, rfl, hown8, hb8⟩
        have hb8' : Below w6.heap.size w6 w8 := undrewB hb8
        obtain ⟨p8, c8, rfl, hval8⟩ := nats_open hown8
        obtain ⟨g8, rfl, ct⟩ := hval8 1 (by simp [Code.tg])
        simp only [Code.tg, List.getElem_cons_zero, List.getElem_cons_succ] at ct
        have htgl : (Code.tg (.ifs v x y)).length = 2 := rfl
        have hm8 : Mach w8 mb av V4 (st4 + 1) fu := (hb8'.block _ (lt_of_block hm6)).trans hm6
        clear hval8
        go_wp2
        refine ⟨⟨y, pl, V4, st4 + 1, hyn, rfl, rfl, hV4, hV432, hm8, grown_trans hg15 (grown_trans (grown_below hb6) (grown_below hb8')), fun _ => HOTT.out, HEND⟩, ?_⟩
        rw [hm0.out, wleft_of hm8 hV4]; omega
end Go.Proofs.YtdffpkmabehfbaaDoor
