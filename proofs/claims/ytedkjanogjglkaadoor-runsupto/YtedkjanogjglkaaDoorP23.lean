/-
  Walk: chiselref.Machine.block.
  A function that is right can be run: all that is named is there; no walk.
  Walk: chiselref.Func.Run.
  Walk: ir.Run of any text, any arguments, any fuel.
  Walks: chisellaw.lend and chisellaw.as.
-/
import Derived.Test.YtedkjanogjglkaaDoorP22
import Derived.Test.YtedkjanogjglkaaDoorP16
import Derived.Test.YtedkjanogjglkaaDoorP08
import Derived.OwnWalk
import Derived.Test.YtedkjanogjglkaaDoorP20
import Derived.Deep.AppendLies
import Derived.BigQuiet

namespace Go.Proofs.YtedkjanogjglkaaDoor.D
open Go.RowKit
open Go.Proofs.YtedkjanogjglkaaDoor.D.Ref (toF toB toV toL)
open Go.Proofs.YtedkjanogjglkaaDoor.Code (nameOf WFT)

set_option maxRecDepth 100000 in
set_option maxHeartbeats 8000000 in
theorem block_any (g : Code.Fn) (mb fb : Nat) (args : List Int) (pr : Option Addr) (cr : Nat) (V0 : List Int) (st0 fu : Nat) (i place : Nat) (w : World) (hm : MachR w mb fb (.slice pr args.length cr) V0 st0 fu 0) (hV0 : V0.length = 60) (h32 : In32 V0) (ha32 : In32 args) (hfu : fu ≤ 100000)
    (hrep : RepFunc w fb (toF g)) (har : ∀ w', w.grownBy w' (some mb) → IntsAt w' pr args) (hwf : Code.WFF g) (hal : args.length = g.args) (hi : i < g.blocks.length) (hgo : ∀ t ∈ Code.tg g.blocks[i].last, t < g.blocks.length) (hlen : g.blocks[i].values.length ≤ 100000)
    (hfit : ∀ v ∈ g.blocks[i].values, ∀ of, v.thing = .phi of → place < of.length) :
    Calls Tryd.prog 45 #[.pointer (some ⟨mb, 0, none⟩), .int .i64 (i : Nat), .int .i64 (place : Nat)] w fun e w' =>
      w.grownBy w' (some mb) ∧ BlockEnds w' e mb fb (.slice pr args.length cr) args g.blocks fu i place V0 st0 := by
  have hn : 0 < (toF g).Blocks.length := by rw [Code.toF_len]; omega
  obtain ⟨gb, cap, f0, f1, hblk⟩ := hrep.open hn
  obtain ⟨vs, to, c0, c1, c2, c3, hvs, hto⟩ := hblk i (by rw [Code.toF_len]; exact hi)
  have hgi : (toF g).Blocks[i]'(by rw [Code.toF_len]; exact hi) = toB g.blocks[i] := Code.toF_get g i hi
  rw [hgi] at c1 c2 hvs hto
  rw [Code.toF_len] at f1
  have HREP := hide hrep
  have HAR := hide har
  have HM := hide hm
  have HWF := hide (hwf.blocks g.blocks[i] (List.getElem_mem hi)).vals
  have HGO := hide hgo
  have HLW := hide (hwf.blocks g.blocks[i] (List.getElem_mem hi)).last
  have HFIT := hide hfit
  have HG : Hid (g.blocks[i]? = some g.blocks[i]) := hide (List.getElem?_eq_getElem hi)
  have hmost := hwf.most
  have hfn := hm.fn
  have hil : (i : Int) < (g.blocks.length : Int) := by omega
  have hml := lt_of_block hm
  have hrg : ∀ o, (w.alloc o).rangeAt mb 1 (ints V0) := fun o => MachR.range (w := w.alloc o) (stay_alloc hm)
  have hi60 := i64Size V0 hV0
  have hi60' := i64Size' V0 hV0
  have ho := i64One V0
  have hl60 : (ints V0).toArray.size = 60 := by rw [List.size_toArray, ints_length]; exact hV0
  obtain ⟨pv, cv, rfl, _⟩ := hvs.open
  have HVS := hide hvs
  obtain ⟨pt, ct, rfl, _⟩ := ints_open hto
  have HTO := hide hto
  clear hblk hrep har hgo hfit hvs hto hgi hwf
  rw [Code.toB_values, List.length_map] at c0
  have HAL := hide hal
  clear hal
  go_enter Tryd.func45, Tryd.ntmps45
  go_wp2_with (first | (refine wpList_load_mid rfl 96 _ rfl mb 1 rfl (ints V0) _ (hrg _) Tryd.underlying96 rfl hi60 ?_; generalize hw0 : w.alloc _ = w0) | (refine wpList_store_mid rfl 96 _ _ rfl w0.heap.size 0 (ints V0).toArray rfl rfl ?_ hi60' ho ?_; (rw [hl60]; exact (newI64 w0 V0 hV0).2); (rw [show (ints V0).toArray.toList = ints V0 from rfl])))
  generalize hw1 : World.setCells _ _ _ _ = w1
  have hx0 : w0.heap[w.heap.size]? = some (.cells #[.slice pv g.blocks[i].values.length cv, .string (bs (toB g.blocks[i]).Last), .int .i64 (toB g.blocks[i]).V, .slice pt (toB g.blocks[i]).To.length ct] 55) := by rw [← hw0]; exact heap_alloc_new w _
  have hb0 : Below w.heap.size w w0 := by rw [← hw0]; exact below_al (Below.refl _ _) _
  have hz0 : w0.heap.size = w.heap.size + 1 := by rw [← hw0, alloc_size]
  have hB1 : i64Row w1 w0.heap.size V0 := by rw [← hw1]; exact (newI64 w0 V0 hV0).1
  have hx1 := hx0
  have hb1 : Below w0.heap.size w0 w1 := by rw [← hw1]; exact below_cells (below_al (Below.refl _ _) _) (Nat.le_refl _) _ _
  replace hx1 := (hb1.block _ (lt_of_block hx0)).trans hx0
  have hg1 : w.grownBy w1 (some mb) := grown_below (hb0.trans (hb1.mono hb0.size))
  have hm1 : MachR w1 mb fb (.slice pr args.length cr) V0 st0 fu 0 := ((hb0.trans (hb1.mono hb0.size)).block _ hml).trans hm
  clear hw0 hw1 hrg hi60 hi60' ho hl60 hb1 hx0 c0 c1 c2 c3 f0 f1 hfn
  generalize hob : w0.heap.size = ob at *
  generalize hbb : w.heap.size = bb at *
  have hmo : mb < ob := by omega
  clear hob hz0 hb0 hbb
  generalize hbi : g.blocks[i] = bi at *
  obtain ⟨vals, last⟩ := bi
  simp only [Code.toB_values] at HVS
  simp only at hlen HWF HGO HFIT hx1
  go_loopw [10] (fun i10 wr => ∃ (k : Nat) (V : List Int) (st : Nat) (E : Int), k ≤ vals.length ∧ i10 = .int .i64 k ∧ V.length = 60 ∧ In32 V ∧ MachR wr mb fb (.slice pr args.length cr) V st fu E ∧ i64Row wr ob V0 ∧
      wr.heap[bb]? = some (.cells #[.slice pv vals.length cv, .string (bs (toB ⟨vals, last⟩).Last), .int .i64 (toB ⟨vals, last⟩).V, .slice pt (toB ⟨vals, last⟩).To.length ct] 55) ∧ w.grownBy wr (some mb) ∧ Hid (Valued args V0 place fu vals st0 k V st E)) (fun i10 _ => vals.length - (intOf i10).toNat)
  case atStart => exact ⟨0, V0, st0, 0, by omega, rfl, hV0, h32, hm1, hB1, hx1, hg1, Or.inl ⟨rfl, rfl⟩⟩
  case round =>
    obtain ⟨k, V, st, E, hk, rfl, hV, hV32, hmk, hBk, hxk, hgk, hsp⟩ := hrel
    clear hB1 hx1 hg1 hm1
    have hc0 := blk_cell hxk 0 _ rfl
    have hce := hmk.err hV
    rcases hsp.out with ⟨rfl, hrun⟩ | ⟨rfl, hrun⟩ | ⟨rfl, hrun⟩
    case inr.inl =>
      have HE : Hid (Code.Ends args g.blocks fu i place V0 st0 0 st 5) := hide (Code.Ends.fuelV HG.out hrun)
      clear hrun hsp
      by_cases hkt : (k : Int) < (vals.length : Int)
      · go_wp2
        go_ret2
        exact ⟨hgk, V, st, 5, hV, hV32, hmk, Or.inl ⟨by decide, rfl, HE.out⟩⟩
      · go_wp2
        go_ret2
        exact ⟨hgk, V, st, 5, hV, hV32, hmk, Or.inl ⟨by decide, rfl, HE.out⟩⟩
    case inr.inr =>
      have HE : Hid (Code.Ends args g.blocks fu i place V0 st0 0 st 4) := hide (Code.Ends.trap HG.out hrun)
      clear hrun hsp
      by_cases hkt : (k : Int) < (vals.length : Int)
      · go_wp2
        go_ret2
        exact ⟨hgk, V, st, 4, hV, hV32, hmk, Or.inl ⟨by decide, rfl, HE.out⟩⟩
      · go_wp2
        go_ret2
        exact ⟨hgk, V, st, 4, hV, hV32, hmk, Or.inl ⟨by decide, rfl, HE.out⟩⟩
    have HRUN := hide hrun
    clear hrun hsp
    by_cases hkt : k < vals.length
    · have hvk := HVS.out.kept HM.out hgk
      obtain ⟨pv', cv', hpe, hval⟩ := hvk.open
      simp only [Value.slice.injEq] at hpe
      obtain ⟨rfl, _, rfl⟩ := hpe
      obtain ⟨g2, a, rfl, d0, d1, d2, d3, hof⟩ := hval k (by rw [List.length_map]; exact hkt)
      rw [List.getElem_map] at d0 d1 d2 hof
      obtain ⟨hnum, hwt⟩ := HWF.out vals[k] (List.getElem_mem hkt)
      have hft := HFIT.out vals[k] (List.getElem_mem hkt)
      obtain ⟨pa, ca, rfl, hcl⟩ := ints_open hof
      clear hcl
      have hxa := hide (intsAt_own hof)
      have HOF := hide hof
      have hkt' : (k : Int) < (vals.length : Int) := by omega
      clear hval hvk hof
      have HMV : Hid (∀ w', MadeV w' mb fb (.slice pr args.length cr) args V0 place V st fu vals[k] → Nexts w' mb fb (.slice pr args.length cr) args V0 place fu vals st0 k) := hide fun w' h => valued_next hV hV32 hkt HRUN.out h
      generalize vals[k] = vk at *
      obtain ⟨x, th⟩ := vk
      simp only at hnum hwt hft
      by_cases hphi : th.isPhi = true
      · obtain ⟨of, hof⟩ : ∃ of, th = .phi of := by
          cases h : th with
          | phi of => exact ⟨of, rfl⟩
          | arg n => rw [h] at hphi; cases hphi
          | const n => rw [h] at hphi; cases hphi
          | apply n l => rw [h] at hphi; cases hphi
        subst hof
        have hpl := hft of rfl
        have hp60 : of[place] < 60 := hwt _ (List.getElem_mem hpl)
        have hxa2 := hxa.out place (by simp only [toV, List.length_map]; exact hpl)
        obtain ⟨g3, o3, rfl, hg3l, e0⟩ := hxa2
        have hg3n : g3 ≠ mb := by
          rintro rfl
          exact own_ne HOF.out hmk (by decide) rfl
        simp only [toV, List.getElem_map] at d0 d1 d2 e0
        simp only [toV, List.length_map] at d3
        have HC : Hid (Code.comes args V0 V place (.phi of) = some (V0[of[place]]'(by omega))) := by
          refine hide ?_
          simp only [Code.comes]
          rw [List.getD_eq_getElem?_getD, List.getD_eq_getElem?_getD, List.getElem?_eq_getElem hpl, Option.getD_some, List.getElem?_eq_getElem (by omega), Option.getD_some]
        have HVAL := hide (h32.get of[place] (by omega))
        have hq : ((bs Go.Proofs.YtedkjanogjglkaaDoor.Ref.sPhi).toList == [112, 104, 105]) = true := toList_yes (by rw [bl_bs]; rfl)
        generalize bs Go.Proofs.YtedkjanogjglkaaDoor.Ref.sPhi = op at *
        have hx60' : (x : Int) < 60 := by omega
        have hpl' : (place : Int) < (of.length : Int) := by omega
        have hp60' : ((of[place] : Nat) : Int) < 60 := by omega
        clear hft hwt hphi hxa
        go_wp2_with fail
        generalize hw9 : wr.alloc _ = w9
        have hm9 : MachR w9 mb fb (.slice pr args.length cr) V st fu 0 := by rw [← hw9]; exact stay_alloc hmk
        have hcp9 : w9.heap[wr.heap.size]? = some (.cells #[.int .i64 (x : Nat), .string op, .int .i64 0, .slice (some ⟨g3, o3, none⟩) of.length ca] 58) := by rw [← hw9]; exact heap_alloc_new wr _
        have hg9 : wr.grownBy w9 (some mb) := by rw [← hw9]; exact grown_alloc _ _ _
        have hmbl := lt_of_block hmk
        have hobl := lt_of_block hBk
        have hbbl := lt_of_block hxk
        clear hw9 d0 d1 d2 d3
        generalize hb9 : wr.heap.size = b9 at *
        refine (step_any mb fb _ V st fu 0 w9 hm9 hV hfu).mono ?_
        rintro e w10 ⟨hg10, ⟨hlt, rfl, hm10⟩ | ⟨hge, rfl, hm10⟩⟩
        case inr =>
          obtain ⟨V', st', E', hV', h32', hm', hval'⟩ := HMV.out w10 (Or.inl ⟨hge, hm10⟩)
          have hg9' := grown_trans hg9 hg10
          have hB' := kept_block hBk hg9' (by omega)
          have hx' := kept_block hxk hg9' (by omega)
          go_wp2
          exact ⟨⟨k + 1, V', st', E', by omega, by go_num, hV', h32', hm', hB', hx', grown_trans hgk hg9', hval'⟩, by simp [intOf]; omega⟩
        have hcp10 := kept_block hcp9 hg10 (by omega)
        have hg10' : wr.grownBy w10 (some mb) := grown_trans hg9 hg10
        have hB10 : i64Row w10 ob V0 := kept_block hBk hg10' (by omega)
        have hx10 := kept_block hxk hg10' (by omega)
        have hrow : ∀ w', w10.grownBy w' (some mb) → w'.cell? ⟨g3, o3 + place, none⟩ = some (.int .i64 (of[place] : Nat)) := fun w' h => by
          have h2 := (grown_trans hg10' h).block g3 (by omega) (fun e => hg3n (by simpa using e))
          simpa [World.cell?, h2] using e0
        obtain ⟨mx, hmx⟩ : ∃ mx, w10.cell? ⟨mb, 1 + x, none⟩ = some mx := ⟨_, hm10.val x (by omega)⟩
        have hfx := blk_froz hm10 (1 + x)
        have hc9 : ∀ w', w10.grownBy w' (some mb) → w'.cell? ⟨b9, 0, none⟩ = some (.int .i64 (x : Nat)) := fun w' h => blk_cell (kept_block hcp10 h (by omega)) 0 _ rfl
        have hc10 : ∀ w', w10.grownBy w' (some mb) → w'.cell? ⟨b9, 3, none⟩ = some (.slice (some ⟨g3, o3, none⟩) of.length ca) := fun w' h => blk_cell (kept_block hcp10 h (by omega)) 3 _ rfl
        have hcB : ∀ w', w10.grownBy w' (some mb) → w'.cell? ⟨ob, of[place], none⟩ = some (.int .i64 (V0[of[place]]'(by omega))) := fun w' h => i64Row.cell (w := w') (kept_block hB10 h (by omega)) _ _
        clear hcp9 hm9 hmk hBk hxk hc0 hce e0 hg9
        go_wp2_with fail
        go_region_held3 (fun w' => w10.grownBy w' (some mb)) (first | assumption | (repeat' (first | assumption | exact grown_refl _ _ | apply grown_drew | exact grown_set _ _ _ _ | (refine grown_trans ?_ (grown_set _ _ _ _))))) (fail)
        obtain ⟨V', st', E', hV', h32', hm', hval'⟩ := HMV.out _ (Or.inr ⟨hlt, Or.inl ⟨_, HC.out, HVAL.out, hm10.setVal x (by omega) _⟩⟩)
        have hB' : i64Row _ ob V0 := stay_set (a := ⟨mb, 1 + x, none⟩) (v := .int .i64 (V0[of[place]]'(by omega))) hB10 (show ob ≠ mb by omega)
        have hx' := stay_set (a := ⟨mb, 1 + x, none⟩) (v := .int .i64 (V0[of[place]]'(by omega))) hx10 (show bb ≠ mb by omega)
        go_wp2
        exact ⟨⟨k + 1, V', st', E', by omega, by go_num, hV', h32', hm', hB', hx', grown_drew (grown_trans hgk (grown_trans hg10' (grown_set _ _ _ _))), hval'⟩, by simp [intOf]; omega⟩
      · have hq : ((bs (toV ⟨x, th⟩).Op).toList == [112, 104, 105]) = false := toList_no (by
          rw [bl_bs]
          cases th with
          | phi of => exact absurd rfl hphi
          | arg n => exact (by decide : Go.Proofs.YtedkjanogjglkaaDoor.Ref.sArg ≠ [112, 104, 105])
          | const n => exact (by decide : Go.Proofs.YtedkjanogjglkaaDoor.Ref.sConst ≠ [112, 104, 105])
          | apply n l => exact (Ref.arity_name n hwt.1).2.2.2.2.1)
        have hph : th.isPhi = false := by simpa using hphi
        have HW : Hid (∀ w', wr.grownBy w' (some mb) → IntsAt w' pa (toV ⟨x, th⟩).Args) := hide fun w' h => intsAt_own (own_kept hmk h HOF.out (by decide))
        have HAk : Hid (∀ w', wr.grownBy w' (some mb) → IntsAt w' pr args) := hide fun w' h => HAR.out w' (grown_trans hgk h)
        have HM1 : Hid (∀ w9, wr.grownBy w9 (some mb) → MachR w9 mb fb (.slice pr args.length cr) V st fu 0 → Calls Tryd.prog 57 #[.pointer (some ⟨mb, 0, none⟩), .agg #[.int .i64 (toV ⟨x, th⟩).V, .string (bs (toV ⟨x, th⟩).Op), .int .i64 (toV ⟨x, th⟩).N, .slice pa (toV ⟨x, th⟩).Args.length ca]] w9 fun e w' =>
            e = .returned (.tuple #[]) ∧ w9.grownBy w' (some mb) ∧ MadeV w' mb fb (.slice pr args.length cr) args V0 place V st fu ⟨x, th⟩) := hide fun w9 h9 hm9 =>
          make1_any mb fb args V0 place pr cr V st fu ⟨x, th⟩ pa ca w9 hm9 hV hV32 ha32 hfu hnum (by rw [HAL.out]; exact hwt) hph (fun w' h => HAk.out w' (grown_trans h9 h)) (fun w' h => HW.out w' (grown_trans h9 h))
        clear hxa HOF HFIT HWF
        generalize (toV ⟨x, th⟩).V = RV at *
        generalize bs (toV ⟨x, th⟩).Op = op at *
        generalize (toV ⟨x, th⟩).N = RN at *
        generalize (toV ⟨x, th⟩).Args.length = al at *
        have hmbl := lt_of_block hmk
        have hobl := lt_of_block hBk
        have hbbl := lt_of_block hxk
        clear hft hwt hphi HW HAk hnum
        go_wp2_with fail
        generalize hw9 : wr.alloc _ = w9
        have hm9 : MachR w9 mb fb (.slice pr args.length cr) V st fu 0 := by rw [← hw9]; exact stay_alloc hmk
        have hg9 : wr.grownBy w9 (some mb) := by rw [← hw9]; exact grown_alloc _ _ _
        clear hw9
        refine (HM1.out w9 hg9 hm9).mono ?_
        rintro e w10 ⟨rfl, hg10, hmv⟩
        obtain ⟨V', st', E', hV', h32', hm', hval'⟩ := HMV.out w10 hmv
        have hg9' := grown_trans hg9 hg10
        have hB' := kept_block hBk hg9' (by omega)
        have hx' := kept_block hxk hg9' (by omega)
        clear hmv hm9 hmk hBk hxk hc0 hce d0 d1 d2 d3
        go_wp2
        exact ⟨⟨k + 1, V', st', E', by omega, by go_num, hV', h32', hm', hB', hx', grown_trans hgk hg9', hval'⟩, by simp [intOf]; omega⟩
    · have hke : ¬ (k : Int) < (vals.length : Int) := by omega
      have hrun : Code.runVals args V0 place fu vals V0 st0 = .ok V st := by rw [← HRUN.out, List.drop_of_length_le (by omega)]; rfl
      have HR2 := hide hrun
      have hst := Code.runVals_steps _ _ _ _ _ hrun
      have HGI : Hid (g.blocks[i]? = some ⟨vals, last⟩) := HG
      clear hrun
      go_wp2_with fail
      refine (step_any mb fb _ V st fu 0 wr hmk hV hfu).mono ?_
      rintro e w10 ⟨hg10, ⟨hlt, rfl, hm10⟩ | ⟨hge, rfl, hm10⟩⟩
      case inr =>
        have HE : Hid (Code.Ends args g.blocks fu i place V0 st0 0 st 5) := hide (Code.Ends.fuelL HGI.out HR2.out hge)
        have hx' := kept_block hxk hg10 (by omega)
        go_wp2
        go_ret2
        exact ⟨grown_trans hgk hg10, V, st, 5, hV, hV32, hm10, Or.inl ⟨by decide, rfl, HE.out⟩⟩
      have hx10 := kept_block hxk hg10 (by omega)
      have hg10' : w.grownBy w10 (some mb) := grown_trans hgk hg10
      have x1 := blk_cell hx10 1 _ rfl
      have x2 := blk_cell hx10 2 _ rfl
      have x3 := blk_cell hx10 3 _ rfl
      clear hmk hxk hc0 hce hg10 hgk HRUN
      have HREPk : Hid (∀ w', w.grownBy w' (some mb) → RepFunc w' fb (toF g)) := hide fun w' h => HREP.out.kept HM.out h
      have HTOk : Hid (∀ w', w.grownBy w' (some mb) → IntsAt w' pt (toB ⟨vals, last⟩).To) := hide fun w' h => intsAt_own (own_kept HM.out h HTO.out (by decide))
      have HWL : Hid (∀ j (h : j < (toF g).Blocks.length), (toF g).Blocks[j].To.length ≤ 2) := hide fun j h => by
        rw [Code.toF_len] at h
        rw [Code.toF_get g j h, Code.toB_to, List.length_map]
        cases g.blocks[j].last <;> simp [Code.tg]
      have HEF : Hid (∀ kk t, (Code.tg last)[kk]? = some t → t < g.blocks.length ∧ (Code.edges g.blocks).places i kk < (Ref.edges (toF g) (t : Int)).length ∧ ∀ n (h : n < (Ref.edges (toF g) (t : Int)).length), ((Ref.edges (toF g) (t : Int))[n].1 = (i : Int) ∧ (Ref.edges (toF g) (t : Int))[n].2 = (kk : Int)) ↔ n = (Code.edges g.blocks).places i kk) := hide fun kk t h => by
        have ht := HGO.out t (List.mem_of_getElem? h)
        exact ⟨ht, edge_find g i kk t hi (by rw [hbi]; exact h) ht⟩
      clear HREP HTO HFIT HWF HGO HAR HM HVS HG
      cases last with
      | ret v =>
        have hq : ((bs Go.Proofs.YtedkjanogjglkaaDoor.Ref.sRet).toList == [114, 101, 116]) = true := toList_yes (by rw [bl_bs]; rfl)
        have HE : Hid (Code.Ends args g.blocks fu i place V0 st0 (V.getD v 0) (st + 1) 0) := hide (Code.Ends.ret HGI.out HR2.out hlt rfl)
        have x1' : w10.cell? ⟨bb, 1, none⟩ = some (.string (bs Go.Proofs.YtedkjanogjglkaaDoor.Ref.sRet)) := x1
        clear x1 x2 x3
        generalize bs Go.Proofs.YtedkjanogjglkaaDoor.Ref.sRet = op at *
        go_wp2
        go_ret2
        exact ⟨hg10', V, st + 1, 0, hV, hV32, hm10, Or.inr (Or.inl ⟨rfl, rfl, v, by rw [HGI.out]; rfl, HE.out⟩)⟩
      | jump t =>
        have hqr : ((bs Go.Proofs.YtedkjanogjglkaaDoor.Ref.sJump).toList == [114, 101, 116]) = false := toList_no (by rw [bl_bs]; decide)
        have hqi : ((bs Go.Proofs.YtedkjanogjglkaaDoor.Ref.sJump).toList == [105, 102]) = false := toList_no (by rw [bl_bs]; decide)
        have HEND : Hid (∀ r n er, Code.Ends args g.blocks fu t ((Code.edges g.blocks).places i 0) V (st + 1) r n er → Code.Ends args g.blocks fu i place V0 st0 r n er) := hide fun _ _ _ h => Code.Ends.jump HGI.out HR2.out hlt rfl h
        have HTG : Hid ((Code.tg (.jump t))[0]? = some t) := hide rfl
        have x1' : w10.cell? ⟨bb, 1, none⟩ = some (.string (bs Go.Proofs.YtedkjanogjglkaaDoor.Ref.sJump)) := x1
        have x3' : w10.cell? ⟨bb, 3, none⟩ = some (.slice pt 1 ct) := x3
        have hx10' : w10.heap[bb]? = some (.cells #[.slice pv vals.length cv, .string (bs Go.Proofs.YtedkjanogjglkaaDoor.Ref.sJump), .int .i64 0, .slice pt 1 ct] 55) := hx10
        have HTO : Hid (∀ w', w.grownBy w' (some mb) → IntsAt w' pt [(t : Int)]) := HTOk
        clear x1 x2 x3 hx10 HTOk HR2
        generalize bs Go.Proofs.YtedkjanogjglkaaDoor.Ref.sJump = op at *
        go_wp2_with fail
        go_quiet (fail)
        generalize hwd : World.drewN _ _ = wd
        have hmd : MachR wd mb fb (.slice pr args.length cr) V (st + 1) fu 0 := by rw [← hwd]; exact hm10
        have hxd : wd.heap[bb]? = some (.cells #[.slice pv vals.length cv, .string op, .int .i64 0, .slice pt 1 ct] 55) := by rw [← hwd]; exact hx10'
        have hgd : w.grownBy wd (some mb) := by rw [← hwd]; exact grownN hg10' _
        clear hwd x1' x3' hm10 hg10' hx10'
        obtain ⟨gt, ot, rfl, _, et⟩ := HTO.out wd hgd 0 (by simp)
        simp only [List.getElem_cons_zero, Nat.add_zero] at et
        have x3 := blk_cell hxd 3 _ rfl
        have hfd := hmd.fn
        go_wp2_with fail
        obtain ⟨htl, hpl, hfind⟩ := HEF.out 0 t HTG.out
        have hel := edges_le g (t : Int) hmost
        refine (edges_any (toF g) fb (t : Int) wd (HREPk.out wd hgd) hn (by rw [Code.toF_len]; omega) HWL.out).mono ?_
        rintro e w11 ⟨ve, rfl, hown, hbel⟩
        clear HEF
        obtain ⟨pl, hple⟩ : ∃ pl, (Code.edges g.blocks).places i 0 = pl := ⟨_, rfl⟩
        rw [hple] at hpl hfind
        have HPL := hide hple
        have HFIND := hide hfind
        clear hfind hple
        generalize Ref.edges (toF g) (t : Int) = EL at *
        obtain ⟨ge, ce, rfl, _, hgel, hcE⟩ := row_open hown (by omega)
        have hm11 : MachR w11 mb fb (.slice pr args.length cr) V (st + 1) fu 0 := (hbel.block _ (lt_of_block hmd)).trans hmd
        have hg11 : w.grownBy w11 (some mb) := grown_trans hgd (grown_below hbel)
        have HCE := hide hcE
        clear hcE hown hmd hxd hgd hbel et x3 hfd
        go_wp2_with fail
        go_loop [17] (fun i17 => ∃ m : Nat, m ≤ pl ∧ i17 = .int .i64 m) (fun i17 => pl - (intOf i17).toNat)
        case atStart => exact ⟨0, Nat.zero_le _, rfl⟩
        case round =>
          obtain ⟨m, hm, rfl⟩ := hrel
          have hml2 : m < EL.length := by omega
          have q0 := HCE.out _ _ (edgeCells_get EL m hml2)
          have q1 := HCE.out _ _ (edgeCells_get2 EL m hml2)
          have hfm := HFIND.out m hml2
          generalize EL[m].1 = ea at *
          generalize EL[m].2 = ek at *
          have hml' : (m : Int) < (EL.length : Int) := by omega
          by_cases hmp : m = pl
          · obtain ⟨rfl, rfl⟩ := hfm.2 hmp
            have HMP := hide hmp
            clear hfm hmp
            go_wp2
            go_ret2
            exact ⟨hg11, V, st + 1, 0, hV, hV32, hm11, Or.inr (Or.inr ⟨rfl, by omega, by omega, _, 0, t, HGI.out, HTG.out, by rw [HPL.out, HMP.out]; rfl, HEND.out⟩)⟩
          · have hno : ¬ (ea = (i : Int) ∧ ek = ((0 : Nat) : Int)) := fun h => hmp (hfm.1 h)
            have hnx : m + 1 ≤ pl := by omega
            clear hfm hmp
            by_cases ha : ea = (i : Int)
            · have hk2 : ¬ ek = ((0 : Nat) : Int) := fun h => hno ⟨ha, h⟩
              clear hno
              subst ha
              go_wp2
              exact ⟨⟨m + 1, hnx, by go_num⟩, by simp [intOf]; omega⟩
            · clear hno
              go_wp2
              exact ⟨⟨m + 1, hnx, by go_num⟩, by simp [intOf]; omega⟩
      | ifs v a b =>
        have hv60 : v < 60 := HLW.out.1
        have hv60' : (v : Int) < 60 := by omega
        have hqr : ((bs Go.Proofs.YtedkjanogjglkaaDoor.Ref.sIf).toList == [114, 101, 116]) = false := toList_no (by rw [bl_bs]; decide)
        have hqi : ((bs Go.Proofs.YtedkjanogjglkaaDoor.Ref.sIf).toList == [105, 102]) = true := toList_yes (by rw [bl_bs]; rfl)
        have x1' : w10.cell? ⟨bb, 1, none⟩ = some (.string (bs Go.Proofs.YtedkjanogjglkaaDoor.Ref.sIf)) := x1
        have x2' : w10.cell? ⟨bb, 2, none⟩ = some (.int .i64 (v : Nat)) := x2
        have x3' : w10.cell? ⟨bb, 3, none⟩ = some (.slice pt 2 ct) := x3
        have hx10' : w10.heap[bb]? = some (.cells #[.slice pv vals.length cv, .string (bs Go.Proofs.YtedkjanogjglkaaDoor.Ref.sIf), .int .i64 (v : Nat), .slice pt 2 ct] 55) := hx10
        have HTO : Hid (∀ w', w.grownBy w' (some mb) → IntsAt w' pt [(a : Int), (b : Int)]) := HTOk
        have cv0 := hm10.val v (by omega)
        have HGV : Hid (V.getD v 0 = V[v]'(by omega)) := hide (by rw [List.getD_eq_getElem?_getD, List.getElem?_eq_getElem (by omega)]; rfl)
        have HYES : Hid (V[v]'(by omega) ≠ 0 → ∀ r n er, Code.Ends args g.blocks fu a ((Code.edges g.blocks).places i 0) V (st + 1) r n er → Code.Ends args g.blocks fu i place V0 st0 r n er) := hide fun hne _ _ _ h => Code.Ends.yes HGI.out HR2.out hlt rfl (by rw [HGV.out]; exact hne) h
        have HNO : Hid (V[v]'(by omega) = 0 → ∀ r n er, Code.Ends args g.blocks fu b ((Code.edges g.blocks).places i 1) V (st + 1) r n er → Code.Ends args g.blocks fu i place V0 st0 r n er) := hide fun he _ _ _ h => Code.Ends.no HGI.out HR2.out hlt rfl (by rw [HGV.out]; exact he) h
        clear x1 x2 x3 hx10 HTOk HR2 HGV
        generalize bs Go.Proofs.YtedkjanogjglkaaDoor.Ref.sIf = op at *
        generalize V[v]'(by omega) = vv at *
        by_cases hvz : vv = 0
        · have HEND := hide (HNO.out hvz)
          subst hvz
          clear HYES HNO
          obtain ⟨t, rfl⟩ : ∃ t, t = b := ⟨b, rfl⟩
          have HTG : Hid ((Code.tg (.ifs v a t))[1]? = some t) := hide rfl
          go_wp2_with fail
          go_quiet (fail)
          generalize hwd : World.drewN _ _ = wd
          have hmd : MachR wd mb fb (.slice pr args.length cr) V (st + 1) fu 0 := by rw [← hwd]; exact hm10
          have hxd : wd.heap[bb]? = some (.cells #[.slice pv vals.length cv, .string op, .int .i64 (v : Nat), .slice pt 2 ct] 55) := by rw [← hwd]; exact hx10'
          have hgd : w.grownBy wd (some mb) := by rw [← hwd]; exact grownN hg10' _
          clear hwd x1' x2' x3' hm10 hg10' hx10' cv0
          obtain ⟨gt, ot, rfl, _, et⟩ := HTO.out wd hgd 1 (by simp)
          simp only [List.getElem_cons_zero, List.getElem_cons_succ] at et
          have x3 := blk_cell hxd 3 _ rfl
          have hfd := hmd.fn
          go_wp2_with fail
          obtain ⟨htl, hpl, hfind⟩ := HEF.out 1 t HTG.out
          have hel := edges_le g (t : Int) hmost
          refine (edges_any (toF g) fb (t : Int) wd (HREPk.out wd hgd) hn (by rw [Code.toF_len]; omega) HWL.out).mono ?_
          rintro e w11 ⟨ve, rfl, hown, hbel⟩
          clear HEF
          obtain ⟨pl, hple⟩ : ∃ pl, (Code.edges g.blocks).places i 1 = pl := ⟨_, rfl⟩
          rw [hple] at hpl hfind
          have HPL := hide hple
          have HFIND := hide hfind
          clear hfind hple
          generalize Ref.edges (toF g) (t : Int) = EL at *
          obtain ⟨ge, ce, rfl, _, hgel, hcE⟩ := row_open hown (by omega)
          have hm11 : MachR w11 mb fb (.slice pr args.length cr) V (st + 1) fu 0 := (hbel.block _ (lt_of_block hmd)).trans hmd
          have hg11 : w.grownBy w11 (some mb) := grown_trans hgd (grown_below hbel)
          have HCE := hide hcE
          clear hcE hown hmd hxd hgd hbel et x3 hfd
          go_wp2_with fail
          go_loop [17] (fun i17 => ∃ m : Nat, m ≤ pl ∧ i17 = .int .i64 m) (fun i17 => pl - (intOf i17).toNat)
          case atStart => exact ⟨0, Nat.zero_le _, rfl⟩
          case round =>
            obtain ⟨m, hm, rfl⟩ := hrel
            have hml2 : m < EL.length := by omega
            have q0 := HCE.out _ _ (edgeCells_get EL m hml2)
            have q1 := HCE.out _ _ (edgeCells_get2 EL m hml2)
            have hfm := HFIND.out m hml2
            generalize EL[m].1 = ea at *
            generalize EL[m].2 = ek at *
            have hml' : (m : Int) < (EL.length : Int) := by omega
            by_cases hmp : m = pl
            · obtain ⟨rfl, rfl⟩ := hfm.2 hmp
              have HMP := hide hmp
              clear hfm hmp
              go_wp2
              go_ret2
              exact ⟨hg11, V, st + 1, 0, hV, hV32, hm11, Or.inr (Or.inr ⟨rfl, by omega, by omega, _, 1, t, HGI.out, HTG.out, by rw [HPL.out, HMP.out]; rfl, HEND.out⟩)⟩
            · have hno : ¬ (ea = (i : Int) ∧ ek = ((1 : Nat) : Int)) := fun h => hmp (hfm.1 h)
              have hnx : m + 1 ≤ pl := by omega
              clear hfm hmp
              by_cases ha : ea = (i : Int)
              · have hk2 : ¬ ek = ((1 : Nat) : Int) := fun h => hno ⟨ha, h⟩
                clear hno
                subst ha
                go_wp2
                exact ⟨⟨m + 1, hnx, by go_num⟩, by simp [intOf]; omega⟩
              · clear hno
                go_wp2
                exact ⟨⟨m + 1, hnx, by go_num⟩, by simp [intOf]; omega⟩
        · have HEND := hide (HYES.out hvz)
          have hvb : (vv == 0) = false := beq_eq_false_iff_ne.2 hvz
          clear HYES HNO
          obtain ⟨t, rfl⟩ : ∃ t, t = a := ⟨a, rfl⟩
          have HTG : Hid ((Code.tg (.ifs v t b))[0]? = some t) := hide rfl
          go_wp2_with fail
          go_quiet (fail)
          generalize hwd : World.drewN _ _ = wd
          have hmd : MachR wd mb fb (.slice pr args.length cr) V (st + 1) fu 0 := by rw [← hwd]; exact hm10
          have hxd : wd.heap[bb]? = some (.cells #[.slice pv vals.length cv, .string op, .int .i64 (v : Nat), .slice pt 2 ct] 55) := by rw [← hwd]; exact hx10'
          have hgd : w.grownBy wd (some mb) := by rw [← hwd]; exact grownN hg10' _
          clear hwd x1' x2' x3' hm10 hg10' hx10' cv0
          obtain ⟨gt, ot, rfl, _, et⟩ := HTO.out wd hgd 0 (by simp)
          simp only [List.getElem_cons_zero, Nat.add_zero] at et
          have x3 := blk_cell hxd 3 _ rfl
          have hfd := hmd.fn
          go_wp2_with fail
          obtain ⟨htl, hpl, hfind⟩ := HEF.out 0 t HTG.out
          have hel := edges_le g (t : Int) hmost
          refine (edges_any (toF g) fb (t : Int) wd (HREPk.out wd hgd) hn (by rw [Code.toF_len]; omega) HWL.out).mono ?_
          rintro e w11 ⟨ve, rfl, hown, hbel⟩
          clear HEF
          obtain ⟨pl, hple⟩ : ∃ pl, (Code.edges g.blocks).places i 0 = pl := ⟨_, rfl⟩
          rw [hple] at hpl hfind
          have HPL := hide hple
          have HFIND := hide hfind
          clear hfind hple
          generalize Ref.edges (toF g) (t : Int) = EL at *
          obtain ⟨ge, ce, rfl, _, hgel, hcE⟩ := row_open hown (by omega)
          have hm11 : MachR w11 mb fb (.slice pr args.length cr) V (st + 1) fu 0 := (hbel.block _ (lt_of_block hmd)).trans hmd
          have hg11 : w.grownBy w11 (some mb) := grown_trans hgd (grown_below hbel)
          have HCE := hide hcE
          clear hcE hown hmd hxd hgd hbel et x3 hfd
          go_wp2_with fail
          go_loop [17] (fun i17 => ∃ m : Nat, m ≤ pl ∧ i17 = .int .i64 m) (fun i17 => pl - (intOf i17).toNat)
          case atStart => exact ⟨0, Nat.zero_le _, rfl⟩
          case round =>
            obtain ⟨m, hm, rfl⟩ := hrel
            have hml2 : m < EL.length := by omega
            have q0 := HCE.out _ _ (edgeCells_get EL m hml2)
            have q1 := HCE.out _ _ (edgeCells_get2 EL m hml2)
            have hfm := HFIND.out m hml2
            generalize EL[m].1 = ea at *
            generalize EL[m].2 = ek at *
            have hml' : (m : Int) < (EL.length : Int) := by omega
            by_cases hmp : m = pl
            · obtain ⟨rfl, rfl⟩ := hfm.2 hmp
              have HMP := hide hmp
              clear hfm hmp
              go_wp2
              go_ret2
              exact ⟨hg11, V, st + 1, 0, hV, hV32, hm11, Or.inr (Or.inr ⟨rfl, by omega, by omega, _, 0, t, HGI.out, HTG.out, by rw [HPL.out, HMP.out]; rfl, HEND.out⟩)⟩
            · have hno : ¬ (ea = (i : Int) ∧ ek = ((0 : Nat) : Int)) := fun h => hmp (hfm.1 h)
              have hnx : m + 1 ≤ pl := by omega
              clear hfm hmp
              by_cases ha : ea = (i : Int)
              · have hk2 : ¬ ek = ((0 : Nat) : Int) := fun h => hno ⟨ha, h⟩
                clear hno
                subst ha
                go_wp2
                exact ⟨⟨m + 1, hnx, by go_num⟩, by simp [intOf]; omega⟩
              · clear hno
                go_wp2
                exact ⟨⟨m + 1, hnx, by go_num⟩, by simp [intOf]; omega⟩
end Go.Proofs.YtedkjanogjglkaaDoor.D


namespace Go.Proofs.YtedkjanogjglkaaDoor.Code

theorem fits_of {args : List Int} {v : Val} {place : Nat} (hn : v.num < 60) (hw : WFT args.length v.thing) (hp : ∀ of, v.thing = .phi of → place < of.length) : Fits args place v := by
  obtain ⟨num, th⟩ := v
  refine ⟨hn, ?_⟩
  cases th with
  | phi of => exact ⟨hp of rfl, hw _ (List.getElem_mem _)⟩
  | arg n => exact hw
  | const c => exact hw
  | apply k of =>
    obtain ⟨hk, hl, hx⟩ := hw
    have : opOf k = 1 ∨ opOf k = 2 := by
      match k, hk with
      | 0, _ | 1, _ | 2, _ | 3, _ | 4, _ | 5, _ | 6, _ | 7, _ | 8, _ | 9, _ | 10, _ | 11, _ | 12, _ => decide
    exact ⟨hk, by omega, by omega, hx⟩

theorem runs_of (g : Fn) (hr : Right g.blocks) (hwf : WFF g) (hl : ∀ b ∈ g.blocks, b.values.length ≤ 100000) (args : List Int) (hal : args.length = g.args) : Runs args g.blocks where
  most := hr.most
  some := hr.some
  lens := hl
  goes b hb t ht := (hr.goes b hb t ht).2
  uses b hb x hx := by
    have := (hwf.blocks b hb).last
    cases h : b.last with
    | ret v => rw [h] at hx this; simp only [useL, List.mem_singleton] at hx; rw [hx]; exact this
    | jump t => rw [h] at hx; simp [useL] at hx
    | ifs v a b => rw [h] at hx this; simp only [useL, List.mem_singleton] at hx; rw [hx]; exact this.1
  first h v hv := by
    obtain ⟨h1, h2⟩ := (hwf.blocks _ (List.getElem_mem h)).vals v hv
    exact fits_of h1 (by rw [hal]; exact h2) (fun of ho => absurd rfl (hr.phis 0 h v hv of ho).1)
  others j h k hk ht v hv := by
    obtain ⟨h1, h2⟩ := (hwf.blocks _ (List.getElem_mem ht)).vals v hv
    refine fits_of h1 (by rw [hal]; exact h2) (fun of ho => ?_)
    have := (hr.phis _ ht v hv of ho).2
    rw [this]
    exact place_lt g.blocks j k h hk ht

theorem phi_first {g : Fn} (hr : Right g.blocks) (h : 0 < g.blocks.length) : ∀ v ∈ g.blocks[0].values, ∀ of, v.thing = .phi of → 0 < of.length := fun v hv of ho => absurd rfl (hr.phis 0 h v hv of ho).1

theorem phi_next {g : Fn} (hr : Right g.blocks) {j k t : Nat} (h : j < g.blocks.length) (hk : (tg g.blocks[j].last)[k]? = some t) (ht : t < g.blocks.length) : ∀ v ∈ g.blocks[t].values, ∀ of, v.thing = .phi of → (edges g.blocks).places j k < of.length := fun v hv of ho => by
  obtain ⟨hkl, rfl⟩ := List.getElem?_eq_some_iff.1 hk
  rw [(hr.phis _ ht v hv of ho).2]
  exact place_lt g.blocks j k h hkl ht
end Go.Proofs.YtedkjanogjglkaaDoor.Code


namespace Go.Proofs.YtedkjanogjglkaaDoor.D
open Go.RowKit
open Go.Proofs.YtedkjanogjglkaaDoor.D.Ref (toF toB toV toL)
open Go.Proofs.YtedkjanogjglkaaDoor.Code (nameOf WFT)

/-- The arguments and the fuel are such that a function may run. -/
def GoodRun (g : Code.Fn) (args : List Int) (fuel : Int) : Prop := args.length = g.args ∧ 0 ≤ fuel ∧ fuel ≤ 100000 ∧ In32 args

/-- What a run gives. -/
def RunPost (e : Ending) (g : Code.Fn) (args : List Int) (fuel : Int) : Prop :=
  (¬ GoodRun g args fuel ∧ e = .returned (.tuple #[.int .i64 0, .int .i64 0, .int .i64 3])) ∨
    (GoodRun g args fuel ∧ ∃ (r : Int) (n : Nat) (er : Int), Code.Ends args g.blocks fuel.toNat 0 0 zeros 0 r n er ∧ e = .returned (.tuple #[.int .i64 r, .int .i64 (n : Nat), .int .i64 er]))

theorem frun_no (g : Code.Fn) (fb : Nat) (args : List Int) (pr : Option Addr) (cr : Nat) (fuel : Int) (w : World) (hrep : RepFunc w fb (toF g)) (hn : 0 < g.blocks.length) (h : ¬ (args.length = g.args ∧ 0 ≤ fuel ∧ fuel ≤ 100000)) :
    Calls Tryd.prog 27 #[.pointer (some ⟨fb, 0, none⟩), .slice pr args.length cr, .int .i64 fuel] w fun e w' => e = .returned (.tuple #[.int .i64 0, .int .i64 0, .int .i64 3]) ∧ w' = w := by
  obtain ⟨gb, cap, f0, f1, _⟩ := hrep.open (by rw [Code.toF_len]; exact hn)
  have f0' : w.cell? ⟨fb, 0, none⟩ = some (.int .i64 (g.args : Nat)) := f0
  clear f0 f1 hrep
  by_cases h1 : args.length = g.args
  · have h1' : (((args.length : Nat) : Int) != ((g.args : Nat) : Int)) = false := by rw [h1]; simp
    by_cases h2 : fuel < 0
    · clear h h1
      go_enter Tryd.func27, Tryd.ntmps27
      go_wp2
      go_ret3
      exact ⟨rfl, rfl⟩
    · have h3 : 100000 < fuel := by omega
      clear h h1
      go_enter Tryd.func27, Tryd.ntmps27
      go_wp2
      go_ret3
      exact ⟨rfl, rfl⟩
  · have h1' : (((args.length : Nat) : Int) != ((g.args : Nat) : Int)) = true := bne_iff_ne.2 (by omega)
    clear h h1
    go_enter Tryd.func27, Tryd.ntmps27
    go_wp2
    go_ret3
    exact ⟨rfl, rfl⟩

def wleftR (w : World) (mb fu : Nat) : Nat := match w.cell? ⟨mb, 62, none⟩ with
  | some (.int _ n) => fu - n.toNat
  | _ => 0

theorem wleftR_of {w : World} {mb fb : Nat} {av : Value} {V : List Int} {st fu : Nat} {E : Int} (h : MachR w mb fb av V st fu E) (hV : V.length = 60) : wleftR w mb fu = fu - st := by
  simp only [wleftR, h.steps hV]
  omega

theorem wrap64_id {n : Int} (h : -2147483648 ≤ n ∧ n < 2147483648) : wrap64 n = n := by unfold wrap64; omega

set_option maxRecDepth 100000 in
set_option maxHeartbeats 8000000 in
theorem frun_yes (g : Code.Fn) (fb : Nat) (args : List Int) (pr : Option Addr) (cr : Nat) (fu : Nat) (w : World) (hrep : RepFunc w fb (toF g)) (hwf : Code.WFF g) (hr : Code.Right g.blocks) (har : IntsAt w pr args) (h1 : args.length = g.args) (h2 : fu ≤ 100000) :
    Calls Tryd.prog 27 #[.pointer (some ⟨fb, 0, none⟩), .slice pr args.length cr, .int .i64 (fu : Nat)] w fun e w' => Below w.heap.size w w' ∧ RunPost e g args (fu : Int) := by
  have hn := hr.some
  obtain ⟨gb, cap, f0, f1, hblk⟩ := hrep.open (by rw [Code.toF_len]; exact hn)
  have f0' : w.cell? ⟨fb, 0, none⟩ = some (.int .i64 (g.args : Nat)) := f0
  have h1' : (((args.length : Nat) : Int) != ((g.args : Nat) : Int)) = false := by rw [h1]; simp
  have h2' : ¬ 100000 < (fu : Int) := by omega
  have h5 : args.length < 5 := by have := hwf.args; omega
  have HREP := hide hrep
  have HWF := hide hwf
  have HR := hide hr
  have HAR := hide har
  have H1 := hide h1
  clear f0 f1 hrep hwf hr har h1 hblk
  go_enter Tryd.func27, Tryd.ntmps27
  go_wp2_with fail
  go_loopw [9] (fun i wr => ∃ k : Nat, k ≤ args.length ∧ i = .int .i64 k ∧ Below w.heap.size w wr ∧ Hid (∀ j (h : j < args.length), j < k → -2147483648 ≤ args[j] ∧ args[j] < 2147483648)) (fun i _ => args.length - (intOf i).toNat)
  case atStart => exact ⟨0, by omega, rfl, Below.refl _ _, fun j _ h => by omega⟩
  case round =>
    obtain ⟨k, hk, rfl, hbw, hin⟩ := hrel
    by_cases hlt : k < args.length
    · obtain ⟨ga, o, rfl, hgl, ca⟩ := HAR.out.below hbw k hlt
      have hlt' : (k : Int) < (args.length : Int) := by omega
      by_cases h32 : -2147483648 ≤ args[k] ∧ args[k] < 2147483648
      · have HN : Hid (∀ j (h : j < args.length), j < k + 1 → -2147483648 ≤ args[j] ∧ args[j] < 2147483648) := hide fun j h hj => by
          by_cases he : j = k
          · subst he; exact h32
          · exact hin.out j h (by omega)
        have hne : (args[k] != wrap64 (wrap32 args[k])) = false := by
          rw [wrap32_id h32, wrap64_id h32]; simp
        generalize args[k] = a at *
        clear h32 hin
        go_wp2_with fail
        go_quiet (fail)
        go_wp2
        exact ⟨⟨k + 1, by omega, by go_num, belowN hbw _, HN⟩, by simp [intOf]; omega⟩
      · have hne : (args[k] != wrap64 (wrap32 args[k])) = true := by
          refine bne_iff_ne.2 fun e => h32 ?_
          have h := wrap32_in32 args[k]
          rw [wrap64_id h] at e
          rw [e]; exact h
        have HB : Hid (¬ GoodRun g args (fu : Int)) := hide fun hg => h32 (hg.2.2.2 _ (List.getElem_mem hlt))
        generalize args[k] = a at *
        clear h32 hin
        go_wp2_with fail
        go_quiet (fail)
        go_wp2
        go_ret3
        exact ⟨belowN hbw _, Or.inl ⟨HB.out, rfl⟩⟩
    · have h32 : In32 args := fun x hx => by
        obtain ⟨j, hj, rfl⟩ := List.mem_iff_getElem.1 hx
        exact hin.out j hj (by omega)
      have hke : ¬ (k : Int) < (args.length : Int) := by omega
      have HARk := hide (HAR.out.below hbw)
      have HREPk := hide (HREP.out.below hbw)
      clear hin
      go_wp2_with fail
      generalize hw0 : wr.alloc _ = w0
      have hm0 : MachR w0 wr.heap.size fb (.slice pr args.length cr) zeros 0 fu 0 := by rw [← hw0]; exact heap_alloc_new wr _
      have hb0 : Below wr.heap.size wr w0 := by rw [← hw0]; exact below_al (Below.refl _ _) _
      have hbw0 : Below w.heap.size w w0 := hbw.trans (hb0.mono hbw.size)
      have HREP0 := hide (HREPk.out.below hb0)
      have hAR0 := HARk.out.below hb0
      have HAR0 : Hid (∀ w', w0.grownBy w' (some wr.heap.size) → IntsAt w' pr args) := hide fun w' h => HARk.out.below (below_of_grown hb0 h (Nat.le_refl _))
      have hsz := hbw.size
      have HGOOD : Hid (GoodRun g args (fu : Int)) := hide ⟨H1.out, by omega, by omega, h32⟩
      clear hw0 hAR0 hb0 HARk HREPk
      generalize wr.heap.size = mb at *
      have HM0 := hide hm0
      have HST : Hid (∀ j (h : j < g.blocks.length), (∀ t ∈ Code.tg g.blocks[j].last, t < g.blocks.length) ∧ g.blocks[j].values.length ≤ 100000) := hide fun j h => ⟨fun t ht => (HR.out.goes _ (List.getElem_mem h) t ht).2, (HR.out.small _ (List.getElem_mem h)).1⟩
      go_loopw [11, 12] (fun a11 a12 wr => ∃ (at_ place : Nat) (V : List Int) (st : Nat), at_ < g.blocks.length ∧ a11 = .int .i64 at_ ∧ a12 = .int .i64 place ∧ V.length = 60 ∧ In32 V ∧ MachR wr mb fb (.slice pr args.length cr) V st fu 0 ∧ w0.grownBy wr (some mb) ∧
          Hid (∀ (h : at_ < g.blocks.length), ∀ v ∈ g.blocks[at_].values, ∀ of, v.thing = .phi of → place < of.length) ∧ Hid (∀ r n e, Code.Ends args g.blocks fu at_ place V st r n e → Code.Ends args g.blocks fu 0 0 zeros 0 r n e)) (fun _ _ wr => wleftR wr mb fu)
      case atStart => exact ⟨0, 0, zeros, 0, hn, rfl, rfl, rfl, fun x hx => by rw [List.eq_of_mem_replicate hx]; omega, hm0, grown_refl _ _, fun h => Code.phi_first HR.out h, fun _ _ _ h => h⟩
      case round =>
        obtain ⟨j, place, V, st, hlt, rfl, rfl, hV, hV32, hmk, hgk, hfits, hsp⟩ := hrel
        have hml := hide (wleftR_of hmk hV)
        have hbk : Below w.heap.size w wr := below_of_grown hbw0 hgk (by omega)
        go_wp2_with fail
        refine (block_any g mb fb args pr cr V st fu j place wr hmk hV hV32 h32 h2 (HREP0.out.kept HM0.out hgk) (fun w' h => HAR0.out w' (grown_trans hgk h)) HWF.out H1.out hlt (HST.out j hlt).1 (HST.out j hlt).2 (hfits.out hlt)).mono ?_
        rintro e w1 ⟨hg1, V', st', E, hV', h32', hm1, ⟨hE, rfl, hend⟩ | ⟨rfl, rfl, v, hlast, hend⟩ | ⟨rfl, hst', hstf, b, kk, t, hb, htg, rfl, hgo⟩⟩
        · have ce := hm1.err hV'
          have cs := hm1.steps hV'
          have HE := hide (hsp.out _ _ _ hend)
          have hbe : Below w.heap.size w w1 := below_of_grown hbk hg1 (by omega)
          have hE' : (E != 0) = true := bne_iff_ne.2 hE
          clear hend hE
          go_wp2_with fail
          go_quiet (fail)
          go_wp2
          go_ret3
          exact ⟨belowN hbe _, Or.inr ⟨HGOOD.out, 0, st', E, HE.out, rfl⟩⟩
        · have ce := hm1.err hV'
          have cs := hm1.steps hV'
          have HE := hide (hsp.out _ _ _ hend)
          have hbe : Below w.heap.size w w1 := below_of_grown hbk hg1 (by omega)
          have hlj : g.blocks[j].last = .ret v := by
            rw [List.getElem?_eq_getElem hlt] at hlast
            simpa using hlast
          have hv60 : v < 60 := by
            have := (HWF.out.blocks _ (List.getElem_mem hlt)).last
            rw [hlj] at this
            exact this
          obtain ⟨gb1, cap1, _, f1, hblk1⟩ := (HREP0.out.kept HM0.out (grown_trans hgk hg1)).open (by rw [Code.toF_len]; exact hn)
          obtain ⟨vs1, to1, _, _, c2, _, _, _⟩ := hblk1 j (by rw [Code.toF_len]; exact hlt)
          rw [Code.toF_get g j hlt] at c2
          rw [Code.toF_len] at f1
          have c2' : w1.cell? ⟨gb1, j * 4 + 2, none⟩ = some (.int .i64 (v : Nat)) := by
            rw [c2]
            simp only [toB, Ref.mkBlk, hlj, toL]
          have cv := hm1.val v (by omega)
          have hgd : V'.getD v 0 = V'[v]'(by omega) := by rw [List.getD_eq_getElem?_getD, List.getElem?_eq_getElem (by omega)]; rfl
          rw [hgd] at HE
          have hjl : (j : Int) < (g.blocks.length : Int) := by omega
          have hv60' : (v : Int) < 60 := by omega
          have hneg : (-1 : Int) < 0 := by decide
          generalize V'[v]'(by omega) = rv at *
          clear hend hgd c2 hblk1 hlast hlj
          go_wp2_with fail
          go_quiet (fail)
          go_wp2
          go_ret3
          exact ⟨belowN hbe _, Or.inr ⟨HGOOD.out, rv, st', 0, HE.out, rfl⟩⟩
        · have ce := hm1.err hV'
          rw [List.getElem?_eq_getElem hlt] at hb
          simp only [Option.some.injEq] at hb
          subst hb
          have htl : t < g.blocks.length := (HST.out j hlt).1 t (List.mem_of_getElem? htg)
          have HFT := hide (fun h : t < g.blocks.length => Code.phi_next HR.out hlt htg h)
          have HEND : Hid (∀ r n e, Code.Ends args g.blocks fu t ((Code.edges g.blocks).places j kk) V' st' r n e → Code.Ends args g.blocks fu 0 0 zeros 0 r n e) := hide fun r n e h => hsp.out r n e (hgo r n e h)
          have hnn : ¬ ((t : Nat) : Int) < 0 := by omega
          have hwl := hide (wleftR_of hm1 hV')
          generalize (Code.edges g.blocks).places j kk = pl at *
          clear hgo htg hmk hsp hfits
          go_wp2
          refine ⟨⟨t, pl, V', st', htl, rfl, rfl, hV', h32', hm1, grown_trans hgk hg1, HFT, HEND⟩, ?_⟩
          rw [hml.out, hwl.out]
          omega

/-- The document's Run of a function that is right. -/
theorem frun_any (g : Code.Fn) (fb : Nat) (args : List Int) (pr : Option Addr) (cr : Nat) (fuel : Int) (w : World) (hrep : RepFunc w fb (toF g)) (hwf : Code.WFF g) (hr : Code.Right g.blocks) (har : IntsAt w pr args) :
    Calls Tryd.prog 27 #[.pointer (some ⟨fb, 0, none⟩), .slice pr args.length cr, .int .i64 fuel] w fun e w' => Below w.heap.size w w' ∧ RunPost e g args fuel := by
  by_cases h : args.length = g.args ∧ 0 ≤ fuel ∧ fuel ≤ 100000
  · obtain ⟨h1, h2, h3⟩ := h
    have e : fuel = (fuel.toNat : Int) := by omega
    rw [e]
    exact frun_yes g fb args pr cr fuel.toNat w hrep hwf hr har h1 (by omega)
  · refine (frun_no g fb args pr cr fuel w hrep hr.some h).mono ?_
    rintro e w' ⟨rfl, rfl⟩
    exact ⟨Below.refl _ _, Or.inl ⟨fun hg => h ⟨hg.1, hg.2.1, hg.2.2.1⟩, rfl⟩⟩
end Go.Proofs.YtedkjanogjglkaaDoor.D


namespace Go.Proofs.YtedkjanogjglkaaDoor
open Go.RowKit

theorem Code.wff_of {s : List UInt8} {f : Code.Fn} (h : Code.FnIs s f) (hs : s.length ≤ 1500) (hr : Code.Right f.blocks) : Code.WFF f := by
  obtain ⟨g, rfl, h2, rfl⟩ := Code.fnIs_inv h
  have hrr := (Code.right_iff g h2 (Code.wf_of h2 hs)).1 hr
  rw [Code.clip_eq h2.most hrr.goes]
  exact h2

theorem allNumbers_no (av : Value) (args : List Int) (w : World) (hav : w.ownsRow 0 3 1 av args.length (ints args)) (h32 : ¬ In32 args) (hl : args.length ≤ 100000) :
    Calls Tryd.prog 31 #[av] w fun e w' => e = .returned (.bool false) ∧ w' = w := by
  obtain ⟨p, ca, rfl, hval⟩ := ints_open hav
  have HV := hide hval
  have HN := hide h32
  clear hval hav h32
  go_enter Tryd.func31, Tryd.ntmps31
  go_wp2
  go_loop [7] (fun i => ∃ k : Nat, k ≤ args.length ∧ i = .int .i64 k ∧ Hid (∀ j (h : j < args.length), j < k → -2147483648 ≤ args[j] ∧ args[j] < 2147483648)) (fun i => args.length - (intOf i).toNat)
  case atStart => exact ⟨0, by omega, rfl, fun j _ h => by omega⟩
  case round =>
    obtain ⟨k, hk, rfl, hin⟩ := hrel
    by_cases hlt : k < args.length
    · obtain ⟨g, rfl, c0⟩ := HV.out k hlt
      by_cases h1 : args[k] < -2147483648
      · clear hin
        go_wp2
        go_ret
        exact ⟨rfl, rfl⟩
      · by_cases h3 : 2147483647 < args[k]
        · clear hin
          go_wp2
          go_ret
          exact ⟨rfl, rfl⟩
        · have HX : Hid (∀ j (h : j < args.length), j < k + 1 → -2147483648 ≤ args[j] ∧ args[j] < 2147483648) := hide fun j h hj => by
            by_cases he : j = k
            · subst he; omega
            · exact hin.out j h (by omega)
          clear hin
          go_wp2
          exact ⟨⟨k + 1, by omega, by go_num, HX⟩, by simp [intOf]; omega⟩
    · refine absurd (fun x hx => ?_) HN.out
      obtain ⟨j, hj, rfl⟩ := List.mem_iff_getElem.1 hx
      exact hin.out j hj (by omega)

set_option maxRecDepth 100000 in
set_option maxHeartbeats 4000000 in
theorem irRun_any (s : ByteArray) (av : Value) (args : List Int) (fuel : Int) (w : World) (ht : Tab w) (hav : w.ownsRow 0 3 1 av args.length (ints args)) :
    Calls Tryd.prog 18 #[.string s, av, .int .i64 fuel] w fun e w' =>
      ((∃ er, Code.ErrOf (bl s) er ∧ e = .returned (.tuple #[.int .i64 0, .int .i64 0, .int .i64 er])) ∨ (∃ f, (bl s).length ≤ 1500 ∧ Code.FnIs (bl s) f ∧ Code.Right f.blocks ∧ D.RunPost e f args fuel)) ∧ Below w.heap.size w w' := by
  obtain ⟨pa, ca, rfl⟩ := own_slice hav
  have HAV := hide hav
  have HREAD := hide (irRead_any s w ht)
  clear hav ht
  go_enter Tryd.func18, Tryd.ntmps18
  go_wp2_with fail
  refine HREAD.out.mono ?_
  rintro e w1 ⟨⟨er, h1, rfl⟩ | ⟨f, p, c, h1, h2, h3, rfl, hrep⟩, hb1⟩
  · have hne : (er != 0) = true := by rcases h1.range with rfl | rfl <;> rfl
    have HE := hide h1
    clear h1
    go_wp2
    go_ret3
    exact ⟨Or.inl ⟨er, HE.out, rfl⟩, below_al hb1 _⟩
  have HREP := hide hrep
  have H := hide (And.intro h1 (And.intro h2 h3))
  have HWF := hide (Code.wff_of h2 h1 h3)
  clear hrep h1 h2 h3
  by_cases hal : args.length = f.args
  case neg =>
    have hne : ((args.length : Int) != (f.args : Int)) = true := bne_iff_ne.2 (by omega)
    have HB : Hid (¬ D.GoodRun f args fuel) := hide fun h => hal h.1
    clear hal
    go_wp2
    go_ret3
    exact ⟨Or.inr ⟨f, H.out.1, H.out.2.1, H.out.2.2, Or.inl ⟨HB.out, rfl⟩⟩, below_al hb1 _⟩
  have hne : ((args.length : Int) != (f.args : Int)) = false := by rw [hal]; simp
  have HAL := hide hal
  have h5 : args.length ≤ 100000 := by have := HWF.out.args; omega
  clear hal
  go_wp2_with fail
  generalize hw2 : w1.alloc _ = w2
  have hb2 : Below w.heap.size w w2 := by rw [← hw2]; exact below_al hb1 _
  have hx2 : w2.heap[w1.heap.size]? = some (.cells #[.int .i64 (f.args : Nat), .slice p f.blocks.length c] 47) := by rw [← hw2]; exact heap_alloc_new w1 _
  have hb12 : Below w1.heap.size w1 w2 := by rw [← hw2]; exact below_al (Below.refl _ _) _
  have c0 := blk_cell hx2 0 _ rfl
  have c1 := blk_cell hx2 1 _ rfl
  clear hw2
  by_cases h32 : In32 args
  case neg =>
    have HB : Hid (¬ D.GoodRun f args fuel) := hide fun h => h32 h.2.2.2
    refine (allNumbers_no (.slice pa args.length ca) args w2 (own_below HAV.out hb2) h32 h5).mono ?_
    rintro e w2 ⟨rfl, rfl⟩
    clear h32
    go_wp2
    go_ret3
    exact ⟨Or.inr ⟨f, H.out.1, H.out.2.1, H.out.2.2, Or.inl ⟨HB.out, rfl⟩⟩, hb2⟩
  refine (allNumbers_ok (.slice pa args.length ca) args w2 (own_below HAV.out hb2) h32 h5).mono ?_
  rintro e w2 ⟨rfl, rfl⟩
  by_cases hf0 : fuel < 0
  · have HB : Hid (¬ D.GoodRun f args fuel) := hide fun h => by have := h.2.1; omega
    go_wp2
    go_ret3
    exact ⟨Or.inr ⟨f, H.out.1, H.out.2.1, H.out.2.2, Or.inl ⟨HB.out, rfl⟩⟩, hb2⟩
  by_cases hf1 : 100000 < fuel
  · have HB : Hid (¬ D.GoodRun f args fuel) := hide fun h => by have := h.2.2.1; omega
    go_wp2
    go_ret3
    exact ⟨Or.inr ⟨f, H.out.1, H.out.2.1, H.out.2.2, Or.inl ⟨HB.out, rfl⟩⟩, hb2⟩
  have HB : Hid (D.GoodRun f args fuel) := hide ⟨HAL.out, by omega, by omega, h32⟩
  obtain ⟨fu, rfl⟩ : ∃ fu : Nat, fuel = (fu : Int) := ⟨fuel.toNat, by omega⟩
  have hfu : fu ≤ 100000 := by omega
  clear h32
  go_wp2_with fail
  refine (frun_any f.args (.slice pa args.length ca) args fu f.blocks p c w.heap.size w2 hfu (own_below HAV.out hb2) (HREP.out.below hb12) (Code.runs_of f H.out.2.2 HWF.out (fun b hb => (H.out.2.2.small b hb).1) args HAL.out)).mono ?_
  rintro e w3 ⟨r, n, er, hE, rfl, hb3⟩
  have HE := hide hE
  clear hE
  go_wp2
  go_ret3
  exact ⟨Or.inr ⟨f, H.out.1, H.out.2.1, H.out.2.2, Or.inr ⟨HB.out, r, n, er, HE.out, rfl⟩⟩, hb2.trans (hb3.mono hb2.size)⟩
end Go.Proofs.YtedkjanogjglkaaDoor


namespace Go.Proofs.YtedkjanogjglkaaDoor
open Go.RowKit
open D (IntsAt)

theorem infoIntL : (Tryd.prog.info? 3).map (fun i => (i.zero, i.size, i.bytes)) = some (some (.int .i64 0), 1, 8) := by kernel_rfl

theorem grow_below {w w1 w2 : World} {g : Nat} (h : Below w.heap.size w w1) (hg : w1.grownBy w2 (some g)) (hb : w.heap.size ≤ g) : Below w.heap.size w w2 := below_of_grown h hg hb

theorem ints_one (l : List Int) : ∀ u ∈ ints l, u.oneCell' = true := fun u hu => by
  obtain ⟨b, _, rfl⟩ := List.mem_map.1 hu
  rfl

theorem ints_at {w : World} {ad : Addr} {l : List Int} (h : IntsAt w (some ad) l) : ∀ j u, (ints l)[j]? = some u → w.cell? (ad.add j) = some u := fun j u hu => by
  have hj : j < l.length := by have := (List.getElem?_eq_some_iff.1 hu).1; rwa [ints_length] at this
  obtain ⟨g', o', e, _, hc⟩ := h j hj
  simp only [Option.some.injEq] at e
  subst e
  simp only [ints, List.getElem?_map, List.getElem?_eq_getElem hj, Option.map_some, Option.some.injEq] at hu
  rw [← hu]
  have e : (⟨g', o', none⟩ : Addr).add j = ⟨g', o' + j, none⟩ := by
    unfold Addr.add
    by_cases h : j = 0
    · subst h; simp
    · simp [h]
  rw [e]
  exact hc

set_option maxRecDepth 100000 in
set_option maxHeartbeats 2000000 in
theorem lend_any (args : List Int) (pr : Option Addr) (cr : Nat) (w : World) (har : IntsAt w pr args) (hnil : pr = none → args.length = 0 ∧ cr = 0) (hl : args.length ≤ 16777216) :
    Calls Tryd.prog 25 #[.slice pr args.length cr] w fun e w' => ∃ g cap, e = .returned (.slice (some ⟨g, 0, none⟩) (args.length + 2) cap) ∧ w'.ownsRow w.heap.size 3 1 (.slice (some ⟨g, 0, none⟩) (args.length + 2) cap) (args.length + 2) (ints args ++ [.int .i64 77, .int .i64 77]) ∧ Below w.heap.size w w' := by
  obtain ⟨i0, hi, hz0, hz1, hz2⟩ := info_parts infoIntL
  have HAR := hide har
  have HNIL := hide hnil
  clear har hnil
  have hnew : (w.alloc (.cells #[] 3)).ownsRow w.heap.size 3 1 (.slice (some ⟨w.heap.size, 0, none⟩) 0 0) 0 [] := ⟨rfl, Or.inr ⟨_, _, #[], rfl, Nat.le_refl _, heap_alloc_new w _, Nat.le_refl _, by decide, rfl, rfl⟩⟩
  have hb0 : Below w.heap.size w (w.alloc (.cells #[] 3)) := below_al (Below.refl _ _) _
  go_enter Tryd.func25, Tryd.ntmps25
  cases pr with
  | none =>
    obtain ⟨h0, rfl⟩ := HNIL.out rfl
    obtain rfl : args = [] := List.eq_nil_of_length_eq_zero h0
    go_wp2_with (first | (at_builtin; refine wpList_append_fits_any _ rfl _ _ 33 rfl w.heap.size 3 i0 1 Tryd.underlying33 hi hz1 _ 0 0 [] rfl hnew none 0 0 [] rfl rfl (fun _ => ⟨rfl, rfl⟩) (fun ad h => by cases h) (by simp) (by omega) ?_; intro w1 hown1 hgrow1; have hb1 := grow_below hb0 hgrow1 (Nat.le_refl _); clear hnew hb0) | (at_builtin; refine wpList_append_lies _ rfl _ _ 33 rfl w.heap.size 3 i0 (.int .i64 0) 1 8 Tryd.underlying33 hi hz0 hz1 hz2 rfl (by decide) _ _ _ rfl (hown1.alloc _) ⟨_, 0, none⟩ 2 2 [.int .i64 77, .int .i64 77] rfl rfl (D.cells_new _ _ _) (by simp [Value.oneCell']) (by decide) (by unfold maxLen; omega) (by omega) (Nat.le_trans hb1.size (by simp)) _ rfl ?_; intro gw cw w3 hown3 hgrow3 _ _; have hb3 : Below w.heap.size w w3 := (hb1.alloc hb1.size _).grown hgrow3 (Nat.le_trans hb1.size (by simp)) (fun j hj => (hown1.lt j hj).1); clear hgrow3))
    go_ret
    exact ⟨gw, cw, rfl, hown3, hb3⟩
  | some ad =>
    have hat := ints_at (HAR.out.below hb0)
    have hon := ints_one args
    have hln : (ints args).length = args.length * 1 := by rw [ints_length, Nat.mul_one]
    go_wp2_with (first | (at_builtin; refine wpList_append_own _ rfl _ _ 33 rfl w.heap.size 3 i0 (.int .i64 0) 1 8 Tryd.underlying33 hi hz0 hz1 hz2 rfl (by decide) _ 0 [] rfl hnew ad args.length cr (ints args) rfl hln hat hon (by unfold maxLen; omega) (by omega) (by simp) ?_; intro v1 w1 hown1 hgrow1 hnil1; have hb1 : Below w.heap.size w w1 := grow_below hb0 hgrow1 (Nat.le_refl _); rw [Nat.zero_add, List.nil_append] at hown1; clear hnew hb0 hat hon hln hgrow1 hnil1) | (at_builtin; refine wpList_append_lies _ rfl _ _ 33 rfl w.heap.size 3 i0 (.int .i64 0) 1 8 Tryd.underlying33 hi hz0 hz1 hz2 rfl (by decide) _ _ _ rfl (hown1.alloc _) ⟨_, 0, none⟩ 2 2 [.int .i64 77, .int .i64 77] rfl rfl (D.cells_new _ _ _) (by simp [Value.oneCell']) (by decide) (by unfold maxLen; omega) (by omega) (Nat.le_trans hb1.size (by simp)) _ rfl ?_; intro gw cw w3 hown3 hgrow3 _ _; have hb3 : Below w.heap.size w w3 := (hb1.alloc hb1.size _).grown hgrow3 (Nat.le_trans hb1.size (by simp)) (fun j hj => (hown1.lt j hj).1); clear hgrow3))
    go_ret
    exact ⟨gw, cw, rfl, hown3, hb3⟩

theorem lent_get (args : List Int) (m : Nat) (h : m < args.length + 2) : (ints args ++ [Value.int .i64 77, .int .i64 77])[m]? = some (.int .i64 ((args ++ [77, 77])[m]'(by simp; omega))) := by
  have e : ints args ++ [Value.int .i64 77, .int .i64 77] = ints (args ++ [77, 77]) := by simp [ints]
  rw [e]
  exact ints_get _ _ _

set_option maxRecDepth 100000 in
set_option maxHeartbeats 2000000 in
theorem as_any (args : List Int) (pr : Option Addr) (cr g cap base : Nat) (w : World) (har : IntsAt w pr args) (hl : args.length ≤ 16777216) (hown : w.ownsRow base 3 1 (.slice (some ⟨g, 0, none⟩) (args.length + 2) cap) (args.length + 2) (ints args ++ [.int .i64 77, .int .i64 77])) :
    Calls Tryd.prog 26 #[.slice (some ⟨g, 0, none⟩) (args.length + 2) cap, .slice pr args.length cr] w fun e w' => e = .returned (.bool true) ∧ Below w.heap.size w w' := by
  have HAR := hide har
  have HOWN := hide hown
  clear har hown
  go_enter Tryd.func26, Tryd.ntmps26
  go_wp2_with fail
  go_loopw [5] (fun i wr => ∃ m : Nat, m ≤ args.length + 2 ∧ i = .int .i64 m ∧ Below w.heap.size w wr) (fun i _ => args.length + 2 - (intOf i).toNat)
  case atStart => exact ⟨0, by omega, rfl, Below.refl _ _⟩
  case round =>
    obtain ⟨m, hm, rfl, hbw⟩ := hrel
    by_cases hlt : m < args.length + 2
    · have hlt' : (m : Int) < ((args.length + 2 : Nat) : Int) := by omega
      obtain ⟨g', cap', hv, _, hgl, hc⟩ := row_open (own_below HOWN.out hbw) (by omega)
      simp only [Value.slice.injEq, Option.some.injEq, Addr.mk.injEq, and_true, true_and] at hv
      obtain ⟨rfl, rfl⟩ := hv
      have c0 := hc _ _ (lent_get args m hlt)
      clear hc
      by_cases hin : m < args.length
      · have hget : (args ++ [77, 77])[m]'(by simp; omega) = args[m] := List.getElem_append_left hin
        rw [hget] at c0
        obtain ⟨g2, o2, rfl, hgl2, c1⟩ := HAR.out.below hbw m hin
        have hin' : (m : Int) < (args.length : Int) := by omega
        have hge : ¬ (args.length : Int) ≤ (m : Int) := by omega
        generalize args[m] = a at *
        clear hget
        go_wp2_with fail
        go_quiet (fail)
        go_wp2
        exact ⟨⟨m + 1, by omega, by go_num, belowN hbw _⟩, by simp [intOf]; omega⟩
      · have hget : (args ++ [77, 77])[m]'(by simp; omega) = 77 := by
          rw [List.getElem_append_right (by omega)]
          have : m - args.length = 0 ∨ m - args.length = 1 := by omega
          rcases this with h | h <;> simp [h]
        rw [hget] at c0
        have hd : decide ((m : Int) < (args.length : Int)) = false := decide_eq_false (by omega)
        have hge : (args.length : Int) ≤ (m : Int) := by omega
        clear hget
        go_wp2_with fail
        go_quiet (fail)
        go_wp2
        exact ⟨⟨m + 1, by omega, by go_num, belowN hbw _⟩, by simp [intOf]; omega⟩
    · have hlt' : ¬ (m : Int) < ((args.length + 2 : Nat) : Int) := by omega
      go_wp2
      go_ret
      exact ⟨rfl, hbw⟩
end Go.Proofs.YtedkjanogjglkaaDoor
