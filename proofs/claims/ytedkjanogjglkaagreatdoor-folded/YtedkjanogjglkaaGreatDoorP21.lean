/-
  Parts of the proof: CRun, CIrRun, KOne, KEnds, KPick, KMadeA, SdCard.
-/
import Derived.Test.YtedkjanogjglkaaGreatDoorP08
import Derived.Test.YtedkjanogjglkaaGreatDoorP07
import Derived.Test.YtedkjanogjglkaaGreatDoorP20
import Derived.Deep.AppendLies
import Derived.Test.YtedkjanogjglkaaGreatDoorP09
import Derived.Test.YtedkjanogjglkaaGreatDoorCards
import Derived.JoinedOf
import Derived.Deep.DeepHandedRow
import Derived.ChangeMaps5
set_option maxRecDepth 100000
set_option maxHeartbeats 8000000
namespace Go.Proofs.YtedkjanogjglkaaGreatDoor
open Go.RowKit
namespace Code
inductive Ends (args : List Int) (bks : List Blk) (fu : Nat) : Nat -> Nat -> List Int -> Nat -> Int -> Nat -> Int -> Prop
 | fuelV {at_ place st st' : Nat} {V V' : List Int} {b : Blk} : bks[at_]? = some b -> runVals args V place fu b.values V st = .fuel V' st' -> Ends args bks fu at_ place V st 0 st' 5
 | trap {at_ place st st' : Nat} {V V' : List Int} {b : Blk} : bks[at_]? = some b -> runVals args V place fu b.values V st = .trap V' st' -> Ends args bks fu at_ place V st 0 st' 4
 | fuelL {at_ place st st' : Nat} {V V' : List Int} {b : Blk} : bks[at_]? = some b -> runVals args V place fu b.values V st = .ok V' st' -> fu <= st' -> Ends args bks fu at_ place V st 0 st' 5
 | ret {at_ place st st' : Nat} {V V' : List Int} {b : Blk} {v : Nat} : bks[at_]? = some b -> runVals args V place fu b.values V st = .ok V' st' -> st' < fu -> b.last = .ret v -> Ends args bks fu at_ place V st (V'.getD v 0) (st' + 1) 0
 | jump {at_ place st st' t : Nat} {V V' : List Int} {b : Blk} {r : Int} {n : Nat} {e : Int} : bks[at_]? = some b -> runVals args V place fu b.values V st = .ok V' st' -> st' < fu -> b.last = .jump t ->
   Ends args bks fu t ((edges bks).places at_ 0) V' (st' + 1) r n e -> Ends args bks fu at_ place V st r n e
 | yes {at_ place st st' v x y : Nat} {V V' : List Int} {b : Blk} {r : Int} {n : Nat} {e : Int} : bks[at_]? = some b -> runVals args V place fu b.values V st = .ok V' st' -> st' < fu -> b.last = .ifs v x y -> V'.getD v 0 ≠ 0 ->
   Ends args bks fu x ((edges bks).places at_ 0) V' (st' + 1) r n e -> Ends args bks fu at_ place V st r n e
 | no {at_ place st st' v x y : Nat} {V V' : List Int} {b : Blk} {r : Int} {n : Nat} {e : Int} : bks[at_]? = some b -> runVals args V place fu b.values V st = .ok V' st' -> st' < fu -> b.last = .ifs v x y -> V'.getD v 0 = 0 ->
   Ends args bks fu y ((edges bks).places at_ 1) V' (st' + 1) r n e -> Ends args bks fu at_ place V st r n e
theorem runVals_steps {args V0 : List Int} {place fu : Nat} : ∀ (l : List Val) (V V' : List Int) (st st' : Nat), runVals args V0 place fu l V st = .ok V' st' -> st <= st'
 | [], V, V', st, st', h => by simp only [runVals, Out.ok.injEq] at h; omega
 | v :: l, V, V', st, st', h => by
  unfold runVals at h
  split at h
  ·split at h
   ·have := runVals_steps l _ _ _ _ h; omega
   ·cases h
  ·cases h
end Code
theorem oneIf_any (b : Bool) (w : World) :
  Calls Tryz.prog 143 #[.bool b] w fun e w' => e = .returned (.int .i32 (Code.truth b)) /\ w' = w := by
 cases b
 ·go_enter Tryz.func143, Tryz.ntmps143
  go_wp2
  go_ret
  exact ⟨rfl, rfl⟩
 ·go_enter Tryz.func143, Tryz.ntmps143
  go_wp2
  go_ret
  exact ⟨rfl, rfl⟩
def wleft (w : World) (mb fu : Nat) : Nat := match w.cell? ⟨mb, 61, none⟩ with
 | some (.int _ n) => fu - n.toNat
 | _ => 0
theorem wleft_of {w : World} {mb : Nat} {av : Value} {V : List Int} {st fu : Nat} (h : Mach w mb av V st fu) (hV : V.length = 60) : wleft w mb fu = fu - st := by
 simp only [wleft, h.steps hV]
 omega
namespace Code
structure Runs (args : List Int) (bks : List Blk) : Prop where
 most : bks.length <= 8
 some : 0 < bks.length
 lens : ∀ b ∈ bks, b.values.length <= 100000
 goes : ∀ b ∈ bks, ∀ t ∈ tg b.last, t < bks.length
 uses : ∀ b ∈ bks, ∀ x ∈ useL b.last, x < 60
 first : ∀ (h : 0 < bks.length), ∀ v ∈ bks[0].values, Fits args 0 v
 others : ∀ j (h : j < bks.length) k (hk : k < (tg bks[j].last).length) (ht : (tg bks[j].last)[k] < bks.length), ∀ v ∈ bks[(tg bks[j].last)[k]].values, Fits args ((edges bks).places j k) v
end Code
theorem mrun_any (fargs mb : Nat) (av : Value) (args V0 : List Int) (fu : Nat) (bks : List Code.Blk) (p : Option Addr) (c base : Nat) (w : World) (hm : Mach w mb av V0 0 fu) (hV0 : V0.length = 60) (h32 : In32 V0) (hfu : fu <= 100000)
  (hav : w.ownsRow 0 3 1 av args.length (ints args)) (hrep : RepBlks w base (.slice p bks.length c) bks) (hr : Code.Runs args bks) :
  Calls Tryz.prog 97 #[.pointer (some ⟨mb, 0, none⟩), .agg #[.int .i64 (fargs : Nat), .slice p bks.length c]] w fun e w' =>
   w.grownBy w' (some mb) /\ ∃ r n er V, Code.Ends args bks fu 0 0 V0 0 r n er /\ e = .returned (.tuple #[.int .i32 r, .int .i64 er]) /\ Mach w' mb av V n fu /\ V.length = 60 /\ -2147483648 <= r /\ r < 2147483648 := by
 have HREP := hide hrep
 have HAV := hide hav
 have HM := hide hm
 have HR := hide hr
 have hml := lt_of_block hm
 clear hrep hav hr
 go_enter Tryz.func97, Tryz.ntmps97
 go_wp2_with fail
 generalize hw0 : w.alloc _ = w0
 have hx0 : w0.heap[w.heap.size]? = some (.cells #[.int .i64 (fargs : Nat), .slice p bks.length c] 78) := by rw [<- hw0]; exact heap_alloc_new w _
 have hb0 : Below w.heap.size w w0 := by rw [<- hw0]; exact below_al (Below.refl _ _) _
 clear hw0
 refine (edges_any fargs bks p c base w0 (HREP.out.below hb0) HR.out.most HR.out.goes).mono ?_
 rintro e w1 ⟨eb, gc, n1, rfl, heb, hgc, hE, _, hb1⟩
 have hx1 := (hb1.block _ (lt_of_block hx0)).trans hx0
 have hbw1 : Below w.heap.size w w1 := hb0.trans (hb1.mono hb0.size)
 have hm1 : Mach w1 mb av V0 0 fu := (hbw1.block _ hml).trans hm
 have hz0 := hb0.size
 have hxl := lt_of_block hx0
 clear hx0 hb0 hb1
 go_wp2_with fail
 go_loopw [8, 9] (fun a8 a9 wr => ∃ (at_ place : Nat) (V : List Int) (st : Nat), at_ < bks.length /\ a8 = .int .i64 at_ /\ a9 = .int .i64 place /\ V.length = 60 /\ In32 V /\ Mach wr mb av V st fu /\ w1.grownBy wr (some mb) /\
   (∀ (h : at_ < bks.length), ∀ v ∈ bks[at_].values, Code.Fits args place v) /\ Hid (∀ r n e, Code.Ends args bks fu at_ place V st r n e -> Code.Ends args bks fu 0 0 V0 0 r n e)) (fun _ _ wr => wleft wr mb fu)
 case atStart => exact ⟨0, 0, V0, 0, HR.out.some, rfl, rfl, hV0, h32, hm1, grown_refl _ _, HR.out.first, hide fun _ _ _ h => h⟩
 case round =>
  obtain ⟨j, place, V, st, hlt, rfl, rfl, hV, hV32, hmk, hgk, hfits, hsp⟩ := hrel
  have hm0 := hide (wleft_of hmk hV)
  have hgw : w.grownBy wr (some mb) := grown_trans (grown_below hbw1) hgk
  have hxk := kept_block hx1 hgk (by omega)
  have hEk := hE.kept hgk (by simp; omega)
  have hrepk : RepBlks wr base (.slice p bks.length c) bks := HREP.out.keptT HM.out hgw (by decide) (by decide) (by decide)
  have HAVk := hide (own_kept HM.out hgw HAV.out (by decide))
  have HREPk := hide hrepk
  obtain ⟨p', c', hpe, hblk⟩ := hrepk.open
  simp only [Value.slice.injEq] at hpe
  obtain ⟨rfl, _, rfl⟩ := hpe
  obtain ⟨gb, vs, rfl, hg, c0, c1, hvs⟩ := hblk j hlt
  have HVS := hide hvs
  obtain ⟨pv, cv, rfl, _⟩ := hvs.open
  have hxc := blk_cell hxk 1 _ rfl
  have hgetj : bks[j]? = some bks[j] := List.getElem?_eq_getElem hlt
  have HG := hide hgetj
  have hlen := HR.out.lens bks[j] (List.getElem_mem hlt)
  have HGO := hide (HR.out.goes bks[j] (List.getElem_mem hlt))
  have HOT := hide (HR.out.others j hlt)
  have HUS := hide (HR.out.uses bks[j] (List.getElem_mem hlt))
  have HFI := hide (hfits hlt)
  have hjl : (j : Int) < (bks.length : Int) := by omega
  have h8 := HR.out.most
  generalize hbj : bks[j] = bj at *
  obtain ⟨vals, z⟩ := bj
  simp only at c0 c1 hlen
  obtain ⟨T, zv, hzv⟩ := lastV_shape z
  have HZ := hide hzv
  rw [hzv] at c1
  clear hblk hvs hgetj hfits hzv hrepk
  go_wp2_with fail
  generalize hw3 : wr.alloc _ = w3
  have hb3 : Below wr.heap.size wr w3 := by rw [<- hw3]; exact below_al (Below.refl _ _) _
  have hcp3 : w3.heap[wr.heap.size]? = some (.cells #[.slice pv vals.length cv, .iface T zv] 165) := by rw [<- hw3]; exact heap_alloc_new wr _
  have hmbk := lt_of_block hmk
  have hm3 : Mach w3 mb av V st fu := (hb3.block _ hmbk).trans hmk
  generalize hbb : wr.heap.size = b10 at *
  have hb3' : Below wr.heap.size wr w3 := hbb ▸ hb3
  clear hw3 c0 c1 hxc
  refine (makeValues_any mb av args V st fu vals (.slice pv vals.length cv) place base w3 hm3 hV hV32 hfu (own_below HAVk.out hb3') (HVS.out.below hb3') hlen HFI.out).mono ?_
  rintro e w4 ⟨hg4, ⟨V4, st4, hrv, hV4, hV432, rfl, hm4⟩ | ⟨V4, st4, hrv, rfl, hm4, hV4⟩ | ⟨V4, st4, hrv, rfl, hm4, hV4⟩⟩
  case inr.inl =>
   have HE := hide (hsp.out _ _ _ (Code.Ends.fuelV HG.out hrv))
   clear hrv
   go_wp2
   go_ret2
   exact ⟨grown_trans hgw (grown_trans (grown_below hb3') hg4), 0, st4, 5, V4, HE.out, rfl, hm4, hV4, by omega, by omega⟩
  case inr.inr =>
   have HE := hide (hsp.out _ _ _ (Code.Ends.trap HG.out hrv))
   clear hrv
   go_wp2
   go_ret2
   exact ⟨grown_trans hgw (grown_trans (grown_below hb3') hg4), 0, st4, 4, V4, HE.out, rfl, hm4, hV4, by omega, by omega⟩
  have HRV := hide hrv
  have hst4 := Code.runVals_steps _ _ _ _ _ hrv
  clear hrv
  go_wp2_with fail
  refine (step_any mb av V4 st4 fu w4 hm4 hV4 hfu).mono ?_
  rintro e w5 ⟨hg5, ⟨hlt5, rfl, hm5⟩ | ⟨hge5, rfl, hm5⟩⟩
  case inr =>
   have HE := hide (hsp.out _ _ _ (Code.Ends.fuelL HG.out HRV.out hge5))
   go_wp2
   go_ret2
   exact ⟨grown_trans hgw (grown_trans (grown_below hb3') (grown_trans hg4 hg5)), 0, st4, 5, V4, HE.out, rfl, hm5, hV4, by omega, by omega⟩
  have hgr5 : wr.grownBy w5 (some mb) := grown_trans (grown_below hb3') (grown_trans hg4 hg5)
  have hg15 : w1.grownBy w5 (some mb) := grown_trans hgk hgr5
  have hgw5 : w.grownBy w5 (some mb) := grown_trans hgw hgr5
  have hcp5 := kept_block hcp3 (grown_trans hg4 hg5) (by omega)
  have hE5 := hEk.kept hgr5 (by simp; omega)
  have hml5 := lt_of_block hm5
  have hebl := hE5.lt
  have hcpl := lt_of_block hcp5
  have f1 := blk_cell hcp5 1 _ rfl
  clear hcp3 hm3 hg4 hg5 hm4 hmk hgk hgw hxk hEk HAVk HREPk HVS HFI hb3 hb3'
  cases z with
  | ret v =>
   have hTe := HZ.out
   simp only [lastV, Value.iface.injEq] at hTe
   obtain ⟨rfl, rfl⟩ := hTe
   have hv60 : v < 60 := HUS.out v (by simp [Code.useL])
   have hv60' : (v : Int) < 60 := by omega
   have hta := isRet_ret
   have hcv := hm5.val v (by omega)
   have HE := hide (hsp.out _ _ _ (Code.Ends.ret HG.out HRV.out hlt5 rfl))
   have hgd : V4.getD v 0 = V4[v]'(by omega) := by rw [List.getD_eq_getElem?_getD, List.getElem?_eq_getElem (by omega)]; rfl
   rw [hgd] at HE
   have HB := hide (hV432.get v (by omega))
   clear hgd
   go_wp2_with fail
   go_quiet (fail)
   go_wp2
   go_ret2
   exact ⟨grownN (grown_trans hgw5 (grown_alloc _ _ _)) _, _, st4 + 1, 0, V4, HE.out, rfl, stay_alloc hm5, hV4, HB.out.1, HB.out.2⟩
  | jump t =>
   have hTe := HZ.out
   simp only [lastV, Value.iface.injEq] at hTe
   obtain ⟨rfl, rfl⟩ := hTe
   have hta := isRet_jump
   have htb := isIf_jump
   have htn : t < bks.length := HGO.out t (by simp [Code.tg])
   have HOT' := hide (HOT.out 0 (by simp [Code.tg]) (by simpa [Code.tg] using htn))
   have HEND : Hid (∀ r n e, Code.Ends args bks fu t ((Code.edges bks).places j 0) V4 (st4 + 1) r n e -> Code.Ends args bks fu 0 0 V0 0 r n e) := hide fun r n e h => hsp.out r n e (Code.Ends.jump HG.out HRV.out hlt5 rfl h)
   have hlook : (Instr.lookup 251 (.map (some eb)) (.agg #[.int .i64 (j : Nat), .int .i64 0]) false).run Tryz.prog w5 = .ok (.int .i64 ((Code.edges bks).places j 0 : Nat)) w5 := hE5.look j 0 (by omega) (by omega)
   have HTA := hide (targets_any (.jump t))
   rw [HZ.out] at HTA
   generalize (Code.edges bks).places j 0 = pl at *
   go_wp2_with fail
   refine (HTA.out w5).mono ?_
   rintro e w8 ⟨v8, rfl, hown8, hb8⟩
   obtain ⟨p8, c8, rfl, hval8⟩ := nats_open hown8
   obtain ⟨g8, rfl, ct⟩ := hval8 0 (by simp [Code.tg])
   simp only [Code.tg, List.getElem_cons_zero] at ct
   have htgl : (Code.tg (.jump t)).length = 1 := rfl
   have hm8 : Mach w8 mb av V4 (st4 + 1) fu := (hb8.block _ hml5).trans hm5
   clear hval8
   go_wp2
   refine ⟨⟨t, pl, V4, st4 + 1, htn, rfl, rfl, hV4, hV432, hm8, grown_trans hg15 (grown_below hb8), fun _ => HOT'.out, HEND⟩, ?_⟩
   rw [hm0.out, wleft_of hm8 hV4]; omega
  | ifs v x y =>
   have hTe := HZ.out
   simp only [lastV, Value.iface.injEq] at hTe
   obtain ⟨rfl, rfl⟩ := hTe
   have hta := isRet_if
   have htb := isIf_if
   have hv60 : v < 60 := HUS.out v (by simp [Code.useL])
   have hv60' : (v : Int) < 60 := by omega
   have hxn : x < bks.length := HGO.out x (by simp [Code.tg])
   have hyn : y < bks.length := HGO.out y (by simp [Code.tg])
   have HOT0 := hide (HOT.out 0 (by simp [Code.tg]) (by simpa [Code.tg] using hxn))
   have HOT1 := hide (HOT.out 1 (by simp [Code.tg]) (by simpa [Code.tg] using hyn))
   have hcv := hm5.val v (by omega)
   have hgd : V4.getD v 0 = V4[v]'(by omega) := by rw [List.getD_eq_getElem?_getD, List.getElem?_eq_getElem (by omega)]; rfl
   have HEND0 : Hid (V4[v]'(by omega) ≠ 0 -> ∀ r n e, Code.Ends args bks fu x ((Code.edges bks).places j 0) V4 (st4 + 1) r n e -> Code.Ends args bks fu 0 0 V0 0 r n e) := hide fun hne r n e h => hsp.out r n e (Code.Ends.yes HG.out HRV.out hlt5 rfl (by rw [hgd]; exact hne) h)
   have HEND1 : Hid (V4[v]'(by omega) = 0 -> ∀ r n e, Code.Ends args bks fu y ((Code.edges bks).places j 1) V4 (st4 + 1) r n e -> Code.Ends args bks fu 0 0 V0 0 r n e) := hide fun hne r n e h => hsp.out r n e (Code.Ends.no HG.out HRV.out hlt5 rfl (by rw [hgd]; exact hne) h)
   have HTA := hide (targets_any (.ifs v x y))
   rw [HZ.out] at HTA
   clear hgd
   generalize V4[v]'(by omega) = xv at *
   go_wp2_with fail
   generalize hw6 : w5.alloc _ = w6
   have hb6 : Below w5.heap.size w5 w6 := by rw [<- hw6]; exact below_al (Below.refl _ _) _
   have hn6 : w6.heap[w5.heap.size]? = some (.cells #[.int .i64 (v : Nat), .int .i64 (x : Nat), .int .i64 (y : Nat)] 244) := by rw [<- hw6]; exact heap_alloc_new w5 _
   have hm6 : Mach w6 mb av V4 (st4 + 1) fu := (hb6.block _ hml5).trans hm5
   have hcp6 := (hb6.block _ hcpl).trans hcp5
   have hE6 := hE5.below hb6
   have g0 : ∀ w', Below w6.heap.size w6 w' -> w'.cell? ⟨w5.heap.size, 0, none⟩ = some (.int .i64 (v : Nat)) := fun w' h => blk_cell ((h.block _ (lt_of_block hn6)).trans hn6) 0 _ rfl
   have hcv6 : ∀ w', Below w6.heap.size w6 w' -> w'.cell? ⟨mb, 1 + v, none⟩ = some (.int .i32 xv) := fun w' h => by
    rw [(bcell h).1 mb _ (lt_of_block hm6), (bcell hb6).1 mb _ hml5]; exact hcv
   have htr0 : Code.truth false = 0 := rfl
   have htr1 : Code.truth true = 1 := rfl
   clear hw6 f1
   cases hz : (xv == 0) with
   | false =>
    have hl : (Instr.lookup 251 (.map (some eb)) (.agg #[.int .i64 (j : Nat), .int .i64 0]) false).run Tryz.prog w6.drew = .ok (.int .i64 ((Code.edges bks).places j 0 : Nat)) w6.drew := (hE6.below (Below.refl _ _).drew).look j 0 (by omega) (by omega)
    have HEND := hide (HEND0.out (by simpa using hz))
    have HOTT := hide HOT0.out
    generalize (Code.edges bks).places j 0 = pl at *
    go_region_held3 (fun w' => Below w6.heap.size w6 w') (first | assumption | (repeat' (first | assumption | exact Below.refl _ _ | apply Below.drew))) (first | (go_at_call 143; refine (oneIf_any _ _).mono ?_; rintro e w7 ⟨rfl, rfl⟩))
    have f1 := blk_cell (w := w6.drew) hcp6 1 _ rfl
    go_wp2_with fail
    refine (HTA.out w6.drew).mono ?_
    rintro e w8 ⟨v8, rfl, hown8, hb8⟩
    have hb8' : Below w6.heap.size w6 w8 := undrewB hb8
    obtain ⟨p8, c8, rfl, hval8⟩ := nats_open hown8
    obtain ⟨g8, rfl, ct⟩ := hval8 0 (by simp [Code.tg])
    simp only [Code.tg, List.getElem_cons_zero] at ct
    have htgl : (Code.tg (.ifs v x y)).length = 2 := rfl
    have hm8 : Mach w8 mb av V4 (st4 + 1) fu := (hb8'.block _ (lt_of_block hm6)).trans hm6
    clear hval8
    go_wp2
    refine ⟨⟨x, pl, V4, st4 + 1, hxn, rfl, rfl, hV4, hV432, hm8, grown_trans hg15 (grown_trans (grown_below hb6) (grown_below hb8')), fun _ => HOTT.out, HEND⟩, ?_⟩
    rw [hm0.out, wleft_of hm8 hV4]; omega
   | true =>
    have hl : (Instr.lookup 251 (.map (some eb)) (.agg #[.int .i64 (j : Nat), .int .i64 1]) false).run Tryz.prog w6.drew = .ok (.int .i64 ((Code.edges bks).places j 1 : Nat)) w6.drew := (hE6.below (Below.refl _ _).drew).look j 1 (by omega) (by omega)
    have HEND := hide (HEND1.out (by simpa using hz))
    have HOTT := hide HOT1.out
    generalize (Code.edges bks).places j 1 = pl at *
    go_region_held3 (fun w' => Below w6.heap.size w6 w') (first | assumption | (repeat' (first | assumption | exact Below.refl _ _ | apply Below.drew))) (first | (go_at_call 143; refine (oneIf_any _ _).mono ?_; rintro e w7 ⟨rfl, rfl⟩))
    have f1 := blk_cell (w := w6.drew) hcp6 1 _ rfl
    go_wp2_with fail
    refine (HTA.out w6.drew).mono ?_
    rintro e w8 ⟨v8, rfl, hown8, hb8⟩
    have hb8' : Below w6.heap.size w6 w8 := undrewB hb8
    obtain ⟨p8, c8, rfl, hval8⟩ := nats_open hown8
    obtain ⟨g8, rfl, ct⟩ := hval8 1 (by simp [Code.tg])
    simp only [Code.tg, List.getElem_cons_zero, List.getElem_cons_succ] at ct
    have htgl : (Code.tg (.ifs v x y)).length = 2 := rfl
    have hm8 : Mach w8 mb av V4 (st4 + 1) fu := (hb8'.block _ (lt_of_block hm6)).trans hm6
    clear hval8
    go_wp2
    refine ⟨⟨y, pl, V4, st4 + 1, hyn, rfl, rfl, hV4, hV432, hm8, grown_trans hg15 (grown_trans (grown_below hb6) (grown_below hb8')), fun _ => HOTT.out, HEND⟩, ?_⟩
    rw [hm0.out, wleft_of hm8 hV4]; omega
def zeros : List Int := List.replicate 60 0
theorem whole_block {w : World} {g : Nat} {C : Array Value} {T : TypeId} {z : Nat × Nat} (h : w.heap[g]? = some (.cells C T z)) (vs : List Value) (hl : vs.length = C.size) : (w.setCells g 0 vs).heap[g]? = some (.cells vs.toArray T z) := by
 obtain ⟨C', h1, h2, h3, h4, h5⟩ := setCells_block g vs 0 w C h (by omega)
 rw [h1]
 congr 2
 apply Array.ext_getElem?
 intro j
 by_cases hj : j < vs.length
 ·have := h4 j hj
  rw [Nat.zero_add] at this
  rw [this]; simp
 ·rw [Array.getElem?_eq_none (by omega), Array.getElem?_eq_none (by rw [List.size_toArray]; omega)]
theorem there_block {w : World} {g : Nat} {C : Array Value} {T : TypeId} (h : w.heap[g]? = some (.cells C T)) : w.there g 0 C.size := by
 intro j hj
 rw [Nat.zero_add]
 refine ⟨?_, blk_froz h j⟩
 rw [blk_cell h j _ (Array.getElem?_eq_getElem hj)]; rfl
theorem machL_length (av : Value) (V : List Int) (st fu : Nat) (h : V.length = 60) : (machL av V st fu).length = 63 := by simp [machL, i32s, h]
theorem machOne (av : Value) (V : List Int) (st fu : Nat) (h : av.oneCell' = true) : (machL av V st fu).toArray.all (·.oneCell') = true := all_oneCell_toArray (fun v hv => by
 rcases List.mem_cons.1 hv with rfl | hv
 ·exact h
 ·rcases List.mem_append.1 hv with hv | hv
  ·obtain ⟨b, _, rfl⟩ := List.mem_map.1 hv
   rfl
  ·simp only [List.mem_cons, List.not_mem_nil, or_false] at hv
   rcases hv with rfl | rfl <;> rfl)
theorem machSize (av : Value) (V : List Int) (st fu : Nat) (h : V.length = 60) : (Tryz.prog.info? 193).map (·.size) = some (machL av V st fu).toArray.size := by
 rw [List.size_toArray, machL_length av V st fu h]; kernel_rfl
def zeroMach : Array Value := #[.slice none 0 0, .int .i32 0, .int .i32 0, .int .i32 0, .int .i32 0, .int .i32 0, .int .i32 0, .int .i32 0, .int .i32 0, .int .i32 0, .int .i32 0, .int .i32 0, .int .i32 0, .int .i32 0, .int .i32 0, .int .i32 0, .int .i32 0, .int .i32 0, .int .i32 0, .int .i32 0, .int .i32 0, .int .i32 0, .int .i32 0, .int .i32 0, .int .i32 0, .int .i32 0, .int .i32 0, .int .i32 0, .int .i32 0, .int .i32 0, .int .i32 0, .int .i32 0, .int .i32 0, .int .i32 0, .int .i32 0, .int .i32 0, .int .i32 0, .int .i32 0, .int .i32 0, .int .i32 0, .int .i32 0, .int .i32 0, .int .i32 0, .int .i32 0, .int .i32 0, .int .i32 0, .int .i32 0, .int .i32 0, .int .i32 0, .int .i32 0, .int .i32 0, .int .i32 0, .int .i32 0, .int .i32 0, .int .i32 0, .int .i32 0, .int .i32 0, .int .i32 0, .int .i32 0, .int .i32 0, .int .i32 0, .int .i64 0, .int .i64 0]
theorem zeroMach_size : zeroMach.size = 63 := rfl
theorem newMach {W : World} {g : Nat} (h : W.heap[g]? = some (.cells zeroMach 193)) (av : Value) (fu : Nat) :
  Mach (W.setCells g 0 (machL av zeros 0 fu)) g av zeros 0 fu := whole_block h _ (by rw [machL_length _ _ _ _ (by rfl), zeroMach_size])
theorem frun_any (fargs : Nat) (av : Value) (args : List Int) (fu : Nat) (bks : List Code.Blk) (p : Option Addr) (c base : Nat) (w : World) (hfu : fu <= 100000)
  (hav : w.ownsRow 0 3 1 av args.length (ints args)) (hrep : RepBlks w base (.slice p bks.length c) bks) (hr : Code.Runs args bks) :
  Calls Tryz.prog 50 #[.agg #[.int .i64 (fargs : Nat), .slice p bks.length c], av, .int .i64 (fu : Nat)] w fun e w' =>
   ∃ (r : Int) (n : Nat) (er : Int), Code.Ends args bks fu 0 0 zeros 0 r n er /\ e = .returned (.tuple #[.int .i64 r, .int .i64 (n : Nat), .int .i64 er]) /\ Below w.heap.size w w' := by
 obtain ⟨pa, ca, rfl⟩ := own_slice hav
 have HREP := hide hrep
 have HAV := hide hav
 have HR := hide hr
 clear hrep hav hr
 have hsz := machSize (.slice pa args.length ca) zeros 0 fu (by rfl)
 have hon := machOne (.slice pa args.length ca) zeros 0 fu rfl
 have hln : (machL (.slice pa args.length ca) zeros 0 fu).toArray.size = 63 := by rw [List.size_toArray]; exact machL_length _ _ _ _ rfl
 go_enter Tryz.func50, Tryz.ntmps50
 have hnb : ((w.alloc (.cells #[.int .i64 (fargs : Nat), .slice p bks.length c] 78)).alloc (.cells zeroMach 193)).heap[w.heap.size + 1]? = some (.cells zeroMach 193) := by
  have h := heap_alloc_new (w.alloc (.cells #[.int .i64 (fargs : Nat), .slice p bks.length c] 78)) (.cells zeroMach 193)
  rw [alloc_size] at h
  exact h
 have HNB := hide hnb
 have hth := there_block hnb
 rw [zeroMach_size] at hth
 have HTH := hide hth
 clear hnb hth hln
 go_wp2_with (first | (refine wpList_store_mid rfl 193 _ _ rfl _ _ _ rfl rfl ?_ ?_ ?_ ?_; (exact HTH.out); (exact hsz); (exact hon); (generalize hw0 : World.setCells _ _ _ _ = w0); (have hm1 : Mach w0 (w.heap.size + 1) (.slice pa args.length ca) zeros 0 fu := (by rw [<- hw0]; exact newMach HNB.out _ _)); (have hb1 : Below w.heap.size w w0 := (by rw [<- hw0]; exact below_cells (below_al (below_al (Below.refl _ _) _) _) (Nat.le_succ _) _ _)); (have hx1 : w0.heap[w.heap.size]? = some (.cells #[.int .i64 (fargs : Nat), .slice p bks.length c] 78) := (by rw [<- hw0]; exact stay_cells (stay_alloc (heap_alloc_new w _)) (Nat.ne_of_lt (Nat.lt_succ_self _)))); clear hw0; (have c0 := blk_cell hx1 0 _ rfl); (have c1 := blk_cell hx1 1 _ rfl)) | fail)
 refine (mrun_any fargs (w.heap.size + 1) (.slice pa args.length ca) args zeros fu bks p c base w0 hm1 rfl (fun x hx => by rw [List.eq_of_mem_replicate hx]; omega) hfu (own_below HAV.out hb1) (HREP.out.below hb1) HR.out).mono ?_
 rintro e w2 ⟨hg2, r, n, er, V, hE, rfl, hm2, hV, hr1, hr2⟩
 have c61 := hm2.steps hV
 have HE := hide hE
 have hb2 : Below w.heap.size w w2 := below_of_grown hb1 hg2 (Nat.le_succ _)
 clear hE hm1 hb1 hx1 c0 c1 hsz hon
 go_wp2_with fail
 go_quiet (fail)
 go_wp2
 refine bodyPost_ret (v := .tuple #[.int .i64 r, .int .i64 (n : Nat), .int .i64 er]) (by simp [results, Tryz.results50, go_sem]) rfl ?_
 exact ⟨r, n, er, HE.out, rfl, belowN hb2 _⟩
theorem allNumbers_ok (av : Value) (args : List Int) (w : World) (hav : w.ownsRow 0 3 1 av args.length (ints args)) (h32 : In32 args) (hl : args.length <= 100000) :
  Calls Tryz.prog 49 #[av] w fun e w' => e = .returned (.bool true) /\ w' = w := by
 obtain ⟨p, ca, rfl, hval⟩ := ints_open hav
 have HV := hide hval
 clear hval hav
 go_enter Tryz.func49, Tryz.ntmps49
 go_wp2
 go_loop [7] (fun i => ∃ k : Nat, k <= args.length /\ i = .int .i64 k) (fun i => args.length - (intOf i).toNat)
 case atStart => exact ⟨0, by omega, rfl⟩
 case round =>
  obtain ⟨k, hk, rfl⟩ := hrel
  by_cases hlt : k < args.length
  ·obtain ⟨g, rfl, c0⟩ := HV.out k hlt
   have h1 := h32.get k hlt
   have h2 : ¬ args[k] < -2147483648 := by omega
   have h3 : ¬ 2147483647 < args[k] := by omega
   go_wp2
   exact ⟨⟨k + 1, by omega, by go_num⟩, by simp [intOf]; omega⟩
  ·go_wp2
   go_ret
   exact ⟨rfl, rfl⟩
theorem irRun_ok (s : List UInt8) (f : Code.Fn) (av : Value) (args : List Int) (fu : Nat) (w : World) (hs : s.length <= 1500) (ht : Tab w) (hf : Code.FnIs s f) (hr : Code.Right f.blocks) (hav : w.ownsRow 0 3 1 av args.length (ints args)) (hal : args.length = f.args) (h32 : In32 args) (hal2 : args.length <= 100000) (hfu : fu <= 100000) (hrun : Code.Runs args f.blocks) :
  Calls Tryz.prog 25 #[.string (bs s), av, .int .i64 (fu : Nat)] w fun e w' =>
   ∃ (r : Int) (n : Nat) (er : Int), Code.Ends args f.blocks fu 0 0 zeros 0 r n er /\ e = .returned (.tuple #[.int .i64 r, .int .i64 (n : Nat), .int .i64 er]) /\ Below w.heap.size w w' := by
 obtain ⟨pa, ca, rfl⟩ := own_slice hav
 have HAV := hide hav
 have HR := hide hrun
 have H32 := hide h32
 have HREAD := hide (irRead_ok s f w hs ht hf hr)
 clear hav hrun ht hf hr h32
 go_enter Tryz.func25, Tryz.ntmps25
 go_wp2_with fail
 refine HREAD.out.mono ?_
 rintro e w1 ⟨p, c, rfl, hrep, hb1⟩
 have HREP := hide hrep
 have hne : ((args.length : Int) != (f.args : Int)) = false := by rw [hal]; simp
 have hf0 : ¬ (fu : Int) < 0 := by omega
 have hf1 : ¬ (100000 : Int) < (fu : Int) := by omega
 clear hrep hal
 go_wp2_with fail
 generalize hw2 : w1.alloc _ = w2
 have hb2 : Below w.heap.size w w2 := by rw [<- hw2]; exact below_al hb1 _
 have hx2 : w2.heap[w1.heap.size]? = some (.cells #[.int .i64 (f.args : Nat), .slice p f.blocks.length c] 78) := by rw [<- hw2]; exact heap_alloc_new w1 _
 have hb12 : Below w1.heap.size w1 w2 := by rw [<- hw2]; exact below_al (Below.refl _ _) _
 have c0 := blk_cell hx2 0 _ rfl
 have c1 := blk_cell hx2 1 _ rfl
 clear hw2
 refine (allNumbers_ok (.slice pa args.length ca) args w2 (own_below HAV.out hb2) H32.out hal2).mono ?_
 rintro e w2 ⟨rfl, rfl⟩
 go_wp2_with fail
 refine (frun_any f.args (.slice pa args.length ca) args fu f.blocks p c w.heap.size w2 hfu (own_below HAV.out hb2) (HREP.out.below hb12) HR.out).mono ?_
 rintro e w3 ⟨r, n, er, hE, rfl, hb3⟩
 have HE := hide hE
 clear hE
 go_wp2
 refine bodyPost_ret (v := .tuple #[.int .i64 r, .int .i64 (n : Nat), .int .i64 er]) (by simp [results, Tryz.results25, go_sem]) rfl ?_
 exact ⟨r, n, er, HE.out, rfl, hb2.trans (hb3.mono hb2.size)⟩
namespace Code
def Seq : Nat -> List Val -> Prop
 | _, [] => True
 | k, v :: l => v.num = k /\ (∀ x ∈ useT v.thing, x < k) /\ Seq (k + 1) l
theorem Seq.snoc : ∀ {k : Nat} {l : List Val} {v : Val}, Seq k l -> v.num = k + l.length -> (∀ x ∈ useT v.thing, x < k + l.length) -> Seq k (l ++ [v])
 | k, [], v, _, h1, h2 => ⟨h1, h2, trivial⟩
 | k, u :: l, v, h, h1, h2 => by
  refine ⟨h.1, h.2.1, Seq.snoc h.2.2 (by rw [h1, List.length_cons]; omega) (fun x hx => ?_)⟩
  have := h2 x hx
  rw [List.length_cons] at this
  omega
theorem Seq.nums : ∀ {k : Nat} {l : List Val}, Seq k l -> nums l = List.range' k l.length
 | k, [], _ => rfl
 | k, v :: l, h => by
  have ih := Seq.nums h.2.2
  show v.num :: Code.nums l = k :: List.range' (k + 1) l.length
  rw [h.1, ih]
theorem Seq.mem : ∀ {k : Nat} {l : List Val}, Seq k l -> ∀ v ∈ l, k <= v.num /\ v.num < k + l.length /\ ∀ x ∈ useT v.thing, x < v.num
 | k, [], _, v, hv => by cases hv
 | k, u :: l, h, v, hv => by
  rcases List.mem_cons.1 hv with rfl | hv
  ·have h1 := h.1
   refine ⟨by omega, by rw [List.length_cons]; omega, fun x hx => by have := h.2.1 x hx; omega⟩
  ·obtain ⟨h1, h2, h3⟩ := Seq.mem h.2.2 v hv
   exact ⟨by omega, by rw [List.length_cons]; omega, h3⟩
theorem hasAll_of {R : List Bool} {of : List Nat} (h : ∀ x ∈ of, R.getD x false = true) : hasAll R of = true := List.all_eq_true.2 h
theorem getD_set_self {R : List Bool} {k : Nat} (h : k < R.length) : (R.set k true).getD k false = true := by
 rw [List.getD_eq_getElem?_getD, List.getElem?_set_self h]; rfl
theorem useT_len {args : Nat} {t : Thing} (h : GoodT args t) : (useT t).length <= 100000 := by
 cases t with
 | apply k of =>
  have h2 : of.length = opOf k := h.2.1
  have h3 : opOf k <= 100000 := by
   have hk := h.1
   revert hk
   generalize k = j
   intro hk
   match j, hk with
   | 0, _ | 1, _ | 2, _ | 3, _ | 4, _ | 5, _ | 6, _ | 7, _ | 8, _ | 9, _ | 10, _ | 11, _ | 12, _ => decide
  show of.length <= 100000
  omega
 | _ => exact Nat.zero_le _
end Code
namespace Code
def Yields (args : List Int) : List Int -> List Val -> List Int -> Prop
 | vs, [], out => out = vs
 | vs, v :: l, out => ∃ n, comes args [] vs 0 v.thing = some n /\ Yields args (vs ++ [n]) l out
theorem Yields.snoc {args : List Int} : ∀ {l : List Val} {vs out : List Int} {v : Val} {n : Int}, Yields args vs l out -> comes args [] out 0 v.thing = some n -> Yields args vs (l ++ [v]) (out ++ [n])
 | [], vs, out, v, n, h, hc => by
  obtain rfl : out = vs := h
  exact ⟨n, hc, rfl⟩
 | u :: l, vs, out, v, n, h, hc => by
  obtain ⟨m, h1, h2⟩ := h
  exact ⟨m, h1, Yields.snoc h2 hc⟩
theorem good_ne {args : Nat} {t : Thing} (h : GoodT args t) : ∀ k of, t = .apply k of -> 0 < of.length := by
 rintro k of rfl
 have h2 : of.length = opOf k := h.2.1
 have hk := h.1
 rw [h2]
 revert hk
 generalize k = j
 intro hk
 match j, hk with
 | 0, _ | 1, _ | 2, _ | 3, _ | 4, _ | 5, _ | 6, _ | 7, _ | 8, _ | 9, _ | 10, _ | 11, _ | 12, _ => decide
theorem snoc_getD_lt (vs : List Int) (n : Int) (x : Nat) (h : x < vs.length) : (vs ++ [n]).getD x 0 = vs.getD x 0 := by
 rw [List.getD_eq_getElem?_getD, List.getD_eq_getElem?_getD, List.getElem?_append_left h]
theorem snoc_getD_eq (vs : List Int) (n : Int) : (vs ++ [n]).getD vs.length 0 = n := by
 rw [List.getD_eq_getElem?_getD, List.getElem?_append_right (Nat.le_refl _), Nat.sub_self]; rfl
end Code
open Go.Proofs.YtedkjanogjglkaaGreatDoor.Ref (dec ch digits)
def pickN (c : Int) (m : Nat) : Nat := if c < 0 then ((-(c + 1)) % m).toNat else (c % m).toNat
theorem pickN_lt (c : Int) (m : Nat) (h : 0 < m) : pickN c m < m := by
 unfold pickN
 have h1 := Int.emod_lt_of_pos (-(c + 1)) (show (0 : Int) < m by omega)
 have h2 := Int.emod_lt_of_pos c (show (0 : Int) < m by omega)
 have h3 := Int.emod_nonneg (-(c + 1)) (show (m : Int) ≠ 0 by omega)
 have h4 := Int.emod_nonneg c (show (m : Int) ≠ 0 by omega)
 split <;> omega
theorem pickn_any (c : Int) (m : Nat) (hm : 0 < m) (hm' : m <= 1000) (hn : -9223372036854775808 <= c) (hn' : c <= 9223372036854775807) (w : World) :
  Calls Tryz.prog 46 #[.int .i64 c, .int .i64 (m : Nat)] w fun e w' => e = .returned (.int .i64 (pickN c m : Nat)) /\ w' = w := by
 have hm0 : (0 : Int) < (m : Int) := by omega
 have hm1 : (m : Int) ≠ 0 := by omega
 have hm2 : ((m : Int) == 0) = false := by simp; omega
 by_cases h0 : c < 0
 ·have hp : ((pickN c m : Nat) : Int) = -(c + 1).tmod (m : Int) := by
   unfold pickN
   rw [if_pos h0, Int.toNat_of_nonneg (Int.emod_nonneg _ hm1), <- Int.neg_tmod, Int.tmod_eq_emod_of_nonneg (by omega)]
  rw [hp]
  go_enter Tryz.func46, Tryz.ntmps46
  go_wp2
  go_ret
  exact ⟨rfl, rfl⟩
 ·have hp : ((pickN c m : Nat) : Int) = c % (m : Int) := by
   unfold pickN
   rw [if_neg h0, Int.toNat_of_nonneg (Int.emod_nonneg _ hm1)]
  rw [hp]
  go_enter Tryz.func46, Tryz.ntmps46
  go_wp2
  go_ret
  exact ⟨rfl, rfl⟩
def kop (o : Nat) : Nat := if o < 3 then o else o + 1
theorem kreckon_ok (o : Nat) (ho : o < 12) (a b : Int) (ha : -2147483648 <= a) (ha' : a < 2147483648) (hb : -2147483648 <= b) (hb' : b < 2147483648) :
  ∃ x, Code.reckon (kop o) a b = some x /\ ∀ w, Calls Tryz.prog 48 #[.int .i64 (o : Nat), .int .i64 a, .int .i64 b] w fun e w' => e = .returned (.int .i64 x) /\ w' = w := by
 match o, ho with
 | 0, _ => exact ⟨_, rfl, fun w => kr0 a b w ha ha' hb hb'⟩
 | 1, _ => exact ⟨_, rfl, fun w => kr1 a b w ha ha' hb hb'⟩
 | 2, _ => exact ⟨_, rfl, fun w => kr2 a b w ha ha' hb hb'⟩
 | 3, _ => exact ⟨_, rfl, fun w => kr3 a b w ha ha' hb hb'⟩
 | 4, _ => exact ⟨_, rfl, fun w => kr4 a b w ha ha' hb hb'⟩
 | 5, _ => exact ⟨_, rfl, fun w => kr5 a b w ha ha' hb hb'⟩
 | 6, _ => exact ⟨_, rfl, fun w => kr6 a b w ha ha' hb hb'⟩
 | 7, _ => exact ⟨_, rfl, fun w => kr7 a b w ha ha' hb hb'⟩
 | 8, _ =>
  refine ⟨_, rfl, fun w => ?_⟩
  have h : Code.truth (a == b) = if a = b then 1 else 0 := by
   by_cases e : a = b
   ·rw [if_pos e, e]; simp [Code.truth]
   ·rw [if_neg e]; simp [Code.truth, e]
  rw [h]
  exact kr8 a b w ha ha' hb hb'
 | 9, _ =>
  refine ⟨_, rfl, fun w => ?_⟩
  have h : Code.truth (decide (a < b)) = if a < b then 1 else 0 := by
   by_cases e : a < b
   ·rw [if_pos e]; simp [Code.truth, e]
   ·rw [if_neg e]; simp [Code.truth, e]
  rw [h]
  exact kr9 a b w ha ha' hb hb'
 | 10, _ => exact ⟨_, rfl, fun w => kr10 a b w ha ha' hb hb'⟩
 | 11, _ => exact ⟨_, rfl, fun w => kr11 a b w ha ha' hb hb'⟩
def opNames : Array Value := #[.string (bs [97, 100, 100]), .string (bs [115, 117, 98]), .string (bs [109, 117, 108]), .string (bs [97, 110, 100]), .string (bs [111, 114]), .string (bs [120, 111, 114]), .string (bs [115, 104, 108]), .string (bs [115, 104, 114]), .string (bs [101, 113]), .string (bs [108, 116]), .string (bs [110, 101, 103]), .string (bs [110, 111, 116])]
theorem opNames_at (o : Nat) (ho : o < 12) : opNames[o]? = some (.string (bs (Code.nameOf (kop o)))) := by
 match o, ho with
 | 0, _ | 1, _ | 2, _ | 3, _ | 4, _ | 5, _ | 6, _ | 7, _ | 8, _ | 9, _ | 10, _ | 11, _ => rfl
theorem ops_any (w : World) :
  Calls Tryz.prog 47 #[] w fun e w' => ∃ g, e = .returned (.slice (some ⟨g, 0, none⟩) 12 12) /\ (∀ o, o < 12 -> w'.cell? ⟨g, o, none⟩ = some (.string (bs (Code.nameOf (kop o))))) /\ Below w.heap.size w w' /\ g < w'.heap.size := by
 go_enter Tryz.func47, Tryz.ntmps47
 go_wp2
 go_ret
 refine ⟨w.heap.size, rfl, fun o ho => ?_, below_al (Below.refl _ _) _, by simp⟩
 exact blk_cell (heap_alloc_new w (.cells opNames 9)) o _ (opNames_at o ho)
def ActsAt (w : World) (p : Option Addr) (acts : List (Int × Int × Int)) : Prop :=
 ∀ i (h : i < acts.length), ∃ g o, p = some ⟨g, o, none⟩ /\ g < w.heap.size /\ w.cell? ⟨g, o + i * 3, none⟩ = some (.int .i64 acts[i].1) /\ w.cell? ⟨g, o + i * 3 + 1, none⟩ = some (.int .i64 acts[i].2.1) /\ w.cell? ⟨g, o + i * 3 + 2, none⟩ = some (.int .i64 acts[i].2.2)
theorem own_ints2 (W : World) (x y : Int) {base g : Nat} (hg : g = W.heap.size) (hb : base <= g) : (W.alloc (.cells #[.int .i64 x, .int .i64 y] 3)).ownsRow base 3 1 (.slice (some ⟨g, 0, none⟩) 2 2) 2 (ints [x, y]) := by
 subst hg
 exact World.ownsRow_lit W _ 2 hb (by decide) rfl
theorem w32_in32 (x : Int) : -2147483648 <= wrap32 x /\ wrap32 x < 2147483648 := by unfold wrap32; omega
def hdr : List UInt8 := [102, 117, 110, 99, 32, 50, 10, 98, 48, 58, 10]
theorem hdr_two : bs (hdr ++ Code.linesOf [⟨0, .arg 0⟩, ⟨1, .arg 1⟩]) = ⟨#[102, 117, 110, 99, 32, 50, 10, 98, 48, 58, 10, 118, 48, 32, 61, 32, 97, 114, 103, 32, 48, 10, 118, 49, 32, 61, 32, 97, 114, 103, 32, 49, 10]⟩ := rfl
def madeText (l : List Code.Val) : List UInt8 := [102, 117, 110, 99, 32, 50, 10] ++ Code.oneBlock l (l.length - 1)
structure MadeOk (x y : Int) (l : List Code.Val) (out : List Int) (i : Nat) : Prop where
 seq : Code.Seq 0 l
 good : ∀ v ∈ l, Code.GoodT 2 v.thing
 yields : Code.Yields [x, y] [] l out
 in32 : In32 out
 len : l.length = i + 2
 text : (hdr ++ Code.linesOf l).length <= 40 + 24 * i
 head : ∃ r, l = ⟨0, .arg 0⟩ :: ⟨1, .arg 1⟩ :: r /\ ∀ v ∈ r, ∀ n, v.thing ≠ .arg n
 nodiv : ∀ v ∈ l, ∀ of, v.thing ≠ .apply 3 of
theorem textT_const (c : Int) (h : -2147483648 <= c) (h' : c < 2147483648) : (Code.textT (.const c)).length <= 17 := by
 show ([99, 111, 110, 115, 116, 32] ++ digits c).length <= 17
 rw [List.length_append]
 show 6 + (digits c).length <= 17
 unfold digits
 split
 ·have := Code.dec_len (-c).toNat 10 (by omega) (by omega)
  rw [List.length_cons]; omega
 ·have := Code.dec_len c.toNat 10 (by omega) (by omega)
  omega
theorem MadeOk.snoc {x y : Int} {l : List Code.Val} {out : List Int} {i : Nat} (h : MadeOk x y l out i) {th : Code.Thing} {n : Int} (hg : Code.GoodT 2 th) (hu : ∀ z ∈ Code.useT th, z < i + 2) (hc : Code.comes [x, y] [] out 0 th = some n)
  (hn : -2147483648 <= n /\ n < 2147483648) (ht : (Code.textT th).length <= 17) (hi : i <= 40) (hd : (∀ of, th ≠ .apply 3 of) /\ ∀ n, th ≠ .arg n) : MadeOk x y (l ++ [⟨i + 2, th⟩]) (out ++ [n]) (i + 1) where
 seq := h.seq.snoc (by rw [h.len]; show i + 2 = 0 + (i + 2); omega) (fun z hz => by rw [h.len]; have := hu z hz; omega)
 good := fun v hv => by
  rcases List.mem_append.1 hv with hv | hv
  ·exact h.good v hv
  ·rw [List.mem_singleton.1 hv]; exact hg
 yields := h.yields.snoc hc
 in32 := fun v hv => by
  rcases List.mem_append.1 hv with hv | hv
  ·exact h.in32 v hv
  ·rw [List.mem_singleton.1 hv]; exact hn
 len := by rw [List.length_append, h.len]; show i + 2 + 1 = i + 1 + 2; omega
 text := by
  have h1 := h.text
  have h2 := Code.dec_len (i + 2) 2 (by omega) (by omega)
  have e : hdr ++ Code.linesOf (l ++ [⟨i + 2, th⟩]) = (hdr ++ Code.linesOf l) ++ Code.lineOf ⟨i + 2, th⟩ := by simp [Code.linesOf]
  rw [e, List.length_append]
  have e2 : (Code.lineOf ⟨i + 2, th⟩).length = (dec (i + 2)).length + (Code.textT th).length + 5 := by
   simp [Code.lineOf]; omega
  omega
 head := by
  obtain ⟨r, rfl, hr⟩ := h.head
  refine ⟨_, rfl, fun v hv => ?_⟩
  rcases List.mem_append.1 hv with hv | hv
  ·exact hr v hv
  ·rw [List.mem_singleton.1 hv]; exact hd.2
 nodiv := fun v hv => by
  rcases List.mem_append.1 hv with hv | hv
  ·exact h.nodiv v hv
  ·rw [List.mem_singleton.1 hv]; exact hd.1
theorem line_const (l : List Code.Val) (n : Nat) (c : Int) : bs (hdr ++ Code.linesOf (l ++ [⟨n, .const c⟩])) = ((((bs (hdr ++ Code.linesOf l) ++ bs [118]) ++ bs (dec n)) ++ bs [32, 61, 32, 99, 111, 110, 115, 116, 32]) ++ bs (digits c)) ++ bs [10] := by
 rw [bs_append, bs_append, bs_append, bs_append, bs_append]
 congr 1
 simp [Code.linesOf, Code.lineOf, Code.textT]
theorem name_len (q : Nat) (hq : q < 12) : (Code.nameOf (kop q)).length <= 3 := by
 match q, hq with
 | 0, _ | 1, _ | 2, _ | 3, _ | 4, _ | 5, _ | 6, _ | 7, _ | 8, _ | 9, _ | 10, _ | 11, _ => decide
def ofq (q na nb : Nat) : List Nat := if q < 10 then [na, nb] else [na]
theorem bs1 (a : UInt8) : (⟨#[a]⟩ : ByteArray) = bs [a] := rfl
theorem bs2 (a b : UInt8) : (⟨#[a, b]⟩ : ByteArray) = bs [a, b] := rfl
def In64 (n : Int) : Prop := -9223372036854775808 <= n /\ n <= 9223372036854775807
theorem kop_lt {q : Nat} (h : q < 12) : kop q < 13 := by unfold kop; split <;> omega
theorem kop_div (q : Nat) (of : List Nat) : (∀ of', Code.Thing.apply (kop q) of ≠ .apply 3 of') /\ ∀ n, Code.Thing.apply (kop q) of ≠ .arg n := by
 refine ⟨fun of' h => ?_, fun n h => by cases h⟩
 simp only [Code.Thing.apply.injEq] at h
 have := h.1
 unfold kop at this
 split at this <;> omega
theorem ofq_len {q : Nat} (hq : q < 12) (na nb : Nat) : (ofq q na nb).length = Code.opOf (kop q) := by
 unfold ofq
 match q, hq with
 | 0, _ | 1, _ | 2, _ | 3, _ | 4, _ | 5, _ | 6, _ | 7, _ | 8, _ | 9, _ | 10, _ | 11, _ => rfl
theorem ofq_lt {q na nb m : Nat} (hA : na < m) (hB : nb < m) : ∀ z ∈ ofq q na nb, z < m := by
 intro z hz
 unfold ofq at hz
 split at hz <;> simp at hz
 ·rcases hz with rfl | rfl <;> assumption
 ·subst hz; exact hA
theorem ofq_text {q na nb : Nat} (hq : q < 12) (hA : na < 100) (hB : nb < 100) : (Code.textT (.apply (kop q) (ofq q na nb))).length <= 17 := by
 have h1 := name_len q hq
 have h2 := Code.dec_len na 2 (by omega) (by omega)
 have h3 := Code.dec_len nb 2 (by omega) (by omega)
 show (Code.nameOf (kop q) ++ Code.ofText (ofq q na nb)).length <= 17
 rw [List.length_append]
 have h4 : (Code.ofText (ofq q na nb)).length <= 8 := by
  unfold ofq
  split <;> simp [Code.ofText] <;> omega
 omega
theorem reckon_one {q : Nat} (hq : q < 12) (hq10 : ¬ q < 10) (a b c : Int) : Code.reckon (kop q) a b = Code.reckon (kop q) a c := by
 have : q = 10 \/ q = 11 := by omega
 rcases this with rfl | rfl
 ·have e : ∀ z, Code.reckon (kop 10) a z = some (wrap32 (-a)) := fun z => rfl
  rw [e, e]
 ·have e : ∀ z, Code.reckon (kop 11) a z = some (bits .xor .i32 (-1) a) := fun z => rfl
  rw [e, e]
theorem ofq_comes {q na nb : Nat} (hq : q < 12) (args out : List Int) (hA : na < out.length) (hB : nb < out.length) {n : Int} (h : Code.reckon (kop q) out[na] out[nb] = some n) : Code.comes args [] out 0 (.apply (kop q) (ofq q na nb)) = some n := by
 have ea : out.getD na 0 = out[na] := by rw [List.getD_eq_getElem?_getD, List.getElem?_eq_getElem hA]; rfl
 have eb : out.getD nb 0 = out[nb] := by rw [List.getD_eq_getElem?_getD, List.getElem?_eq_getElem hB]; rfl
 by_cases hq10 : q < 10
 ·have e : ofq q na nb = [na, nb] := if_pos hq10
  rw [e]
  show Code.reckon (kop q) (out.getD na 0) (out.getD nb 0) = some n
  rw [ea, eb]; exact h
 ·have e : ofq q na nb = [na] := if_neg hq10
  rw [e]
  show Code.reckon (kop q) (out.getD na 0) (out.getD na 0) = some n
  rw [ea, reckon_one hq hq10 _ _ out[nb]]; exact h
theorem line_apply (l : List Code.Val) (n k : Nat) (of : List Nat) : hdr ++ Code.linesOf (l ++ [⟨n, .apply k of⟩]) = hdr ++ Code.linesOf l ++ [118] ++ dec n ++ [32, 61, 32] ++ Code.nameOf k ++ Code.ofText of ++ [10] := by
 simp [Code.linesOf, Code.lineOf, Code.textT]
theorem MadeOk.start {x y : Int} (hx : -2147483648 <= x /\ x < 2147483648) (hy : -2147483648 <= y /\ y < 2147483648) : MadeOk x y [⟨0, .arg 0⟩, ⟨1, .arg 1⟩] [x, y] 0 where
 seq := ⟨rfl, (fun z hz => absurd hz (List.not_mem_nil)), rfl, (fun z hz => absurd hz (List.not_mem_nil)), trivial⟩
 good := fun v hv => by
  simp at hv
  rcases hv with rfl | rfl
  ·show 0 < 2; omega
  ·show 1 < 2; omega
 yields := ⟨x, congrArg some (w32_in x hx.1 hx.2), y, congrArg some (w32_in y hy.1 hy.2), rfl⟩
 in32 := fun v hv => by
  simp at hv
  rcases hv with rfl | rfl
  ·exact hx
  ·exact hy
 len := rfl
 text := by decide
 head := ⟨[], rfl, fun v hv => by cases hv⟩
 nodiv := fun v hv of => by
  simp at hv
  rcases hv with rfl | rfl <;> exact fun h => by cases h
theorem madeText_is (l : List Code.Val) (n : Nat) (h : l.length = n + 1) : bs (madeText l) = ((bs (hdr ++ Code.linesOf l) ++ ⟨#[114, 101, 116, 32, 118]⟩) ++ bs (dec n)) ++ ⟨#[10]⟩ := by
 have e : (⟨#[114, 101, 116, 32, 118]⟩ : ByteArray) = bs [114, 101, 116, 32, 118] := rfl
 rw [e, bs1, bs_append, bs_append, bs_append]
 congr 1
 unfold madeText Code.oneBlock hdr
 rw [show l.length - 1 = n by omega]
 simp
open Go.ChangeShapes Go.WideShapes Go.ChangeAt Go.RowKit
theorem laidOutS : laidOutB Tryz.prog = true := by kernel_rfl
theorem list_of {α : Type} {P : Nat -> α -> Prop} : ∀ (n : Nat), (∀ i, i < n -> ∃ t, P i t) -> ∃ l : List α, l.length = n /\ ∀ i (h : i < l.length), P i l[i]
 | 0, _ => ⟨[], rfl, fun i h => absurd h (Nat.not_lt_zero i)⟩
 | n + 1, h => by
  obtain ⟨l, hl, hp⟩ := list_of n (fun i hi => h i (by omega))
  obtain ⟨t, ht⟩ := h n (Nat.lt_succ_self n)
  refine ⟨l ++ [t], by simp [hl], fun i hi => ?_⟩
  by_cases e : i < l.length
  ·rw [List.getElem_append_left e]; exact hp i e
  ·have : i = n := by simp at hi; omega
   subst this
   rw [List.getElem_append_right (by omega)]
   simpa [hl] using ht
theorem cells_oneL {W : World} {x : Addr} {a : Value} (h : W.cells? 0 x 1 = some [a]) : W.cell? (x.add 0) = some a := by
 simp [World.cells?, List.range_succ] at h
 cases h0 : W.cell? (x.add 0) with
 | none => simp [h0] at h
 | some u => simp [h0] at h; rw [h]
theorem picks_of {H : Type} {enc : TypeId × Value -> H} {W : World} {a0 : Option Addr} {len cap fuel : Nat} {x : DataW H × List MemPlace} {spare : Nat -> Bool} (hf : DataW.trod enc Tryz.prog W 0 spare true fuel 31 (Value.slice a0 len cap).cells.toList = some x) :
  ∃ l : List Int, PicksAt W (.slice a0 len cap) l /\ ∀ p ∈ l, -9223372036854775808 <= p /\ p <= 9223372036854775807 := by
 rcases DataW.trod_slice Tryz.underlying31 hf with ⟨hcs, _⟩ | ⟨x, len', cap', elems, rest, n, _, hcs, hxd, _, hl, hm, hlen, hel, _, _⟩
 ·simp [Value.cells] at hcs
  obtain ⟨rfl, rfl, rfl⟩ := hcs
  exact ⟨[], ⟨none, _, rfl, fun i h => absurd h (Nat.not_lt_zero i)⟩, by simp⟩
 ·simp [Value.cells] at hcs
  obtain ⟨rfl, rfl, rfl⟩ := hcs
  have hc1 : Tryz.prog.cellsOf 3 = 1 := by kernel_rfl
  have hall : ∀ i, i < len -> ∃ t : Int, W.cell? ((x.add i).add 0) = some (.int .i64 t) /\ -9223372036854775808 <= t /\ t <= 9223372036854775807 := by
   intro i hi
   have hE := hel i hi
   rw [hc1, Nat.mul_one, List.getElem?_eq_getElem (by omega)] at hE
   simp only [Option.bind_eq_some_iff] at hE
   obtain ⟨cs, hcc, hy⟩ := hE
   obtain ⟨k, e0, _, hw⟩ := DataW.trod_int Tryz.underlying3 hy
   rw [e0] at hcc
   have hw' : (decide ((-9223372036854775808 : Int) <= k) && decide (k <= (9223372036854775807 : Int))) = true := hw
   simp only [Bool.and_eq_true, decide_eq_true_eq] at hw'
   exact ⟨k, cells_oneL hcc, hw'⟩
  obtain ⟨l, rfl, hP⟩ := list_of len hall
  refine ⟨l, ⟨some x, cap, rfl, fun i hi => ?_⟩, fun p hp => ?_⟩
  ·have c0 := (hP i hi).1
   obtain ⟨g, o, spot⟩ := x
   have hs : spot = none := by
    have z0 := (hP 0 (by omega)).1
    simpa [Addr.add] using World.cell?_spot z0
   subst hs
   simp only [add_plain, Nat.add_zero] at c0
   exact ⟨g, o, rfl, c0⟩
  ·obtain ⟨i, hi, rfl⟩ := List.getElem_of_mem hp
   exact (hP i hi).2
theorem act_cells {H : Type} {enc : TypeId × Value -> H} {W : World} {n : Nat} {c : List Value} {y : DataW H × List MemPlace}
  (h : DataW.trod enc Tryz.prog W 0 (fun _ => true) true n 100 c = some y) : ∃ k a b, c = [.int .i64 k, .int .i64 a, .int .i64 b] /\ In64 k /\ In64 a /\ In64 b := by
 obtain ⟨ys, m, _, ex, hl, hy, hf⟩ := DataW.trod_struct Tryz.underlying100 h
 have h3 : Tryz.prog.cellsOf 100 = 3 := by kernel_rfl
 have hi1 : Tryz.prog.cellsOf 3 = 1 := by kernel_rfl
 rw [h3] at hl
 obtain ⟨c0, c1, c2, rfl⟩ := three_of hl
 obtain ⟨y0, y1, y2, rfl⟩ := three_of (show ys.length = 3 from hy)
 have h0 : DataW.trod enc Tryz.prog W 0 (fun _ => true) true m 3 (([c0, c1, c2].drop 0).take (Tryz.prog.cellsOf 3)) = some y0 := hf 0 _ rfl
 have h1 : DataW.trod enc Tryz.prog W 0 (fun _ => true) true m 3 (([c0, c1, c2].drop 1).take (Tryz.prog.cellsOf 3)) = some y1 := hf 1 _ rfl
 have h2 : DataW.trod enc Tryz.prog W 0 (fun _ => true) true m 3 (([c0, c1, c2].drop 2).take (Tryz.prog.cellsOf 3)) = some y2 := hf 2 _ rfl
 rw [hi1] at h0 h1 h2
 obtain ⟨k, e0, _, w0⟩ := DataW.trod_int Tryz.underlying3 h0
 obtain ⟨a, e1, _, w1⟩ := DataW.trod_int Tryz.underlying3 h1
 obtain ⟨b, e2, _, w2⟩ := DataW.trod_int Tryz.underlying3 h2
 have k0 : c0 = .int .i64 k := by simpa using e0
 have k1 : c1 = .int .i64 a := by simpa using e1
 have k2 : c2 = .int .i64 b := by simpa using e2
 exact ⟨k, a, b, by rw [k0, k1, k2], bounds_i64 w0, bounds_i64 w1, bounds_i64 w2⟩
theorem cells_three {W : World} {x : Addr} {a b c : Value} (h : W.cells? 0 x 3 = some [a, b, c]) : W.cell? (x.add 0) = some a /\ W.cell? (x.add 1) = some b /\ W.cell? (x.add 2) = some c := by
 simp [World.cells?, List.range_succ] at h
 cases h0 : W.cell? (x.add 0) with
 | none => simp [h0] at h
 | some u =>
  cases h1 : W.cell? (x.add 1) with
  | none => simp [h0, h1] at h
  | some v =>
   cases h2 : W.cell? (x.add 2) with
   | none => simp [h0, h1, h2] at h
   | some z =>
    simp [h0, h1, h2] at h
    obtain ⟨rfl, rfl, rfl⟩ := h
    exact ⟨rfl, rfl, rfl⟩
theorem acts_of {H : Type} {enc : TypeId × Value -> H} {W : World} {a0 : Option Addr} {len cap fuel : Nat} {x : DataW H × List MemPlace} (hf : DataW.trod enc Tryz.prog W 0 (fun _ => true) true fuel 49 (Value.slice a0 len cap).cells.toList = some x) :
  ∃ acts : List (Int × Int × Int), acts.length = len /\ ActsAt W a0 acts /\ (∀ t ∈ acts, In64 t.1 /\ In64 t.2.1 /\ In64 t.2.2) /\ len <= 9223372036854775807 /\ len <= cap := by
 rcases DataW.trod_slice Tryz.underlying49 hf with ⟨hcs, _⟩ | ⟨x, len', cap', elems, rest, n, _, hcs, _, _, hl, hm, hlen, hel, _, _⟩
 ·simp [Value.cells] at hcs
  obtain ⟨rfl, rfl, rfl⟩ := hcs
  exact ⟨[], rfl, fun i h => absurd h (Nat.not_lt_zero i), fun t ht => absurd ht List.not_mem_nil, by omega, by omega⟩
 ·simp [Value.cells] at hcs
  obtain ⟨rfl, rfl, rfl⟩ := hcs
  have hc3 : Tryz.prog.cellsOf 100 = 3 := by kernel_rfl
  have hall : ∀ i, i < len -> ∃ t : Int × Int × Int, ((W.cell? ((x.add (i * 3)).add 0) = some (.int .i64 t.1) /\ W.cell? ((x.add (i * 3)).add 1) = some (.int .i64 t.2.1) /\ W.cell? ((x.add (i * 3)).add 2) = some (.int .i64 t.2.2)) /\ In64 t.1 /\ In64 t.2.1 /\ In64 t.2.2) := by
   intro i hi
   have hE := hel i hi
   rw [hc3, List.getElem?_eq_getElem (by omega)] at hE
   simp only [Option.bind_eq_some_iff] at hE
   obtain ⟨cs, hcc, hy⟩ := hE
   obtain ⟨k, a, b, rfl, w0, w1, w2⟩ := act_cells hy
   exact ⟨(k, a, b), cells_three hcc, w0, w1, w2⟩
  obtain ⟨acts, hal, hP⟩ := list_of len hall
  refine ⟨acts, hal, fun i hi => ?_, fun t ht => ?_, Nat.le_trans (Nat.le_trans hl hm) (by decide), hl⟩
  ·obtain ⟨⟨c0, c1, c2⟩, _⟩ := hP i hi
   obtain ⟨g, o, spot⟩ := x
   have hs : spot = none := by
    obtain ⟨⟨z0, _, _⟩, _⟩ := hP 0 (by omega)
    simpa [Addr.add] using World.cell?_spot z0
   subst hs
   simp only [add_plain, Nat.add_zero] at c0 c1 c2
   exact ⟨g, o, rfl, World.block_lt_of_cell? W _ c0, c0, c1, c2⟩
  ·obtain ⟨i, hi, rfl⟩ := List.mem_iff_getElem.1 ht
   exact (hP i hi).2
end Go.Proofs.YtedkjanogjglkaaGreatDoor
