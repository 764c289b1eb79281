/-
  Walk: code.Function.requirePhis, where it holds.
-/
import Derived.Test.YtdffpkmabehfbaaDoorCReach
import Derived.BigQuiet
namespace Go.Proofs.YtdffpkmabehfbaaDoor
open Go.RowKit

namespace Code
/-- Each phi of a block has one value for each edge into it; the first block has none. -/
def PhisOk (bks : List Blk) : Prop := ∀ j (h : j < bks.length), ∀ v ∈ bks[j].values, ∀ of, v.thing = .phi of → j ≠ 0 ∧ of.length = (edges bks).counts.getD j 0

theorem edges_length (bks : List Blk) : (edges bks).counts.length = bks.length := by
  have : ∀ (l : List (Nat × Nat × Nat)) (E : Edges), (l.foldl Edges.add E).counts.length = E.counts.length := by
    intro l
    induction l with
    | nil => intro E; rfl
    | cons e l ih => intro E; rw [List.foldl_cons, ih, add_length]
  unfold edges
  rw [this]; simp
end Code

theorem belowN {B : Nat} {a w : World} (h : Below B a w) (n : Nat) : Below B a (w.drewN n) := ⟨h.os, h.tape, h.output, h.size, h.block⟩

set_option maxRecDepth 100000 in
set_option maxHeartbeats 4000000 in
theorem phis_ok (args : Nat) (bks : List Code.Blk) (p : Option Addr) (c : Nat) (base : Nat) (w : World) (hf : RepBlks w base (.slice p bks.length c) bks) (hn : bks.length ≤ 8) (hl : ∀ b ∈ bks, b.values.length ≤ 100000) (ht : ∀ b ∈ bks, ∀ t ∈ Code.tg b.last, t < bks.length) (hp : Code.PhisOk bks) :
    Calls Tryd.prog 35 #[.agg #[.int .i64 (args : Nat), .slice p bks.length c]] w fun e w' => e = .returned (.tuple #[]) ∧ Below w.heap.size w w' := by
  have HF := hide hf
  have HTG := hide ht
  have HL := hide hl
  have HP := hide hp
  clear ht hl hp
  go_enter Tryd.func35, Tryd.ntmps35
  go_wp2_with fail
  generalize hw0 : w.alloc _ = w0
  have hx0 : w0.heap[w.heap.size]? = some (.cells #[.int .i64 (args : Nat), .slice p bks.length c] 43) := by rw [← hw0]; exact heap_alloc_new w _
  have hb0 : Below w.heap.size w w0 := by rw [← hw0]; exact below_al (Below.refl _ _) _
  clear hw0
  refine (edges_any args bks p c base w0 (HF.out.below hb0) hn HTG.out).mono ?_
  rintro e w1 ⟨mb, g, n, rfl, hmb, hgm, hE, hnr, hb1⟩
  have hx1 := (hb1.block _ (lt_of_block hx0)).trans hx0
  have hbw1 : Below w.heap.size w w1 := hb0.trans (hb1.mono hb0.size)
  have hz0 := hb0.size
  have hcn := Code.edges_length bks
  have HP' : Hid (∀ j (h : j < bks.length), ∀ v ∈ bks[j].values, ∀ of, v.thing = .phi of → j ≠ 0 ∧ of.length = (Code.edges bks).counts.getD j 0) := HP
  generalize (Code.edges bks).counts = C at *
  have hcx := blk_cell hx1 1 _ rfl
  clear hE hx0 hb0 hb1 HP
  obtain ⟨p', c', hpe, hblk⟩ := hf.open
  simp only [Value.slice.injEq] at hpe
  obtain ⟨rfl, _, rfl⟩ := hpe
  have HBLK := hide hblk
  clear hblk hf
  go_wp2_with fail
  clear hcx
  go_loopw [18] (fun i wr => ∃ j : Nat, j ≤ bks.length ∧ i = .int .i64 j ∧ natRow wr g C ∧ Below w.heap.size w wr) (fun i _ => bks.length - (intOf i).toNat)
  case atStart => exact ⟨0, by omega, rfl, hnr, hbw1⟩
  case round =>
    obtain ⟨j, hj, rfl, hrw, hbw⟩ := hrel
    clear hnr hbw1 hx1
    have hz := hbw.size
    have hgl := lt_of_block hrw
    by_cases hlt : j < bks.length
    · obtain ⟨gb, vs, rfl, hg, c0, c1, hvs⟩ := HBLK.out j hlt
      have hlen := HL.out bks[j] (List.getElem_mem hlt)
      have HPJ := hide (HP'.out j hlt)
      have hgd : C.getD j 0 = C[j]'(by omega) := by rw [List.getD_eq_getElem?_getD, List.getElem?_eq_getElem (by omega)]; rfl
      rw [hgd] at HPJ
      obtain ⟨pv, cv, rfl, hval⟩ := hvs.open
      have c0' : wr.cell? ⟨gb, j * 2, none⟩ = some (.slice pv bks[j].values.length cv) := by rw [(bcell hbw).1 gb _ hg]; exact c0
      obtain ⟨T, zv, hzv⟩ := lastV_shape bks[j].last
      have c1' : wr.cell? ⟨gb, j * 2 + 1, none⟩ = some (.iface T zv) := by rw [(bcell hbw).1 gb _ hg, ← hzv]; exact c1
      generalize bks[j].values = vals at *
      have HV := hide hval
      clear hval c0 c1 hvs hzv hgd
      go_wp2_with fail
      generalize hw3 : wr.alloc _ = w3
      have hb3 : Below w.heap.size w w3 := by rw [← hw3]; exact below_al hbw _
      have hrow3 : natRow w3 g C := by rw [← hw3]; exact stay_alloc hrw
      clear hw3 c0' c1' hrw
      rename World => wo
      go_loopw [26] (fun i ws => ∃ k : Nat, k ≤ vals.length ∧ i = .int .i64 k ∧ natRow ws g C ∧ Below w.heap.size w ws) (fun i _ => vals.length - (intOf i).toNat)
      case atStart => exact ⟨0, by omega, rfl, hrow3, hb3⟩
      case round =>
        obtain ⟨k, hk, rfl, hrw, hbs⟩ := hrel
        clear hrow3 hb3
        have hzs := hbs.size
        by_cases hkt : k < vals.length
        · obtain ⟨g2, th, rfl, hg2, d0, d1, hth⟩ := HV.out k hkt
          have HPK := hide (HPJ.out vals[k] (List.getElem_mem hkt))
          have d0' : wr.cell? ⟨g2, k * 2, none⟩ = some (.int .i64 (vals[k].num : Nat)) := by rw [(bcell hbs).1 g2 _ hg2]; exact d0
          have d1' : wr.cell? ⟨g2, k * 2 + 1, none⟩ = some th := by rw [(bcell hbs).1 g2 _ hg2]; exact d1
          have hth' : ThingV w base vals[k].thing th := hth
          generalize vals[k].thing = y at *
          generalize vals[k].num = x at *
          clear d0 d1
          have hcj := hrw.cell j (by omega)
          have hjl : (j : Int) < (bks.length : Int) := by omega
          have hl1 := lt_of_block hrw
          cases y with
          | phi of =>
            obtain ⟨r, rfl, hro⟩ := hth'
            obtain ⟨pr, cr, rfl⟩ := own_slice hro
            obtain ⟨hj0, hof⟩ := HPK.out of rfl
            have hj0' : ((j : Int) == 0) = false := beq_eq_false_iff_ne.2 (by omega)
            have hta := isPhi_phi
            have hof' : (((of.length : Nat) : Int) != ((C[j]'(by omega) : Nat) : Int)) = false := by rw [hof]; simp
            go_wp2_with fail
            go_quiet (fail)
            go_wp2
            exact ⟨⟨k + 1, by omega, by go_num, stay_alloc (stay_alloc hrw), belowN (below_al (below_al hbs _) _) _⟩, by simp [intOf]; omega⟩
          | arg m =>
            have hth2 : th = _ := hth'
            subst hth2
            have hta := isPhi_arg
            go_wp2_with fail
            go_quiet (fail)
            go_wp2
            exact ⟨⟨k + 1, by omega, by go_num, stay_alloc (stay_alloc hrw), belowN (below_al (below_al hbs _) _) _⟩, by simp [intOf]; omega⟩
          | const m =>
            have hth2 : th = _ := hth'
            subst hth2
            have hta := isPhi_const
            go_wp2_with fail
            go_quiet (fail)
            go_wp2
            exact ⟨⟨k + 1, by omega, by go_num, stay_alloc (stay_alloc hrw), belowN (below_al (below_al hbs _) _) _⟩, by simp [intOf]; omega⟩
          | apply q of =>
            obtain ⟨r, rfl, hro⟩ := hth'
            obtain ⟨pr, cr, rfl⟩ := own_slice hro
            have hta := isPhi_apply
            go_wp2_with fail
            go_quiet (fail)
            go_wp2
            exact ⟨⟨k + 1, by omega, by go_num, stay_alloc (stay_alloc hrw), belowN (below_al (below_al hbs _) _) _⟩, by simp [intOf]; omega⟩
        · go_wp2
          exact ⟨⟨j + 1, by omega, by go_num, hrw, hbs⟩, by simp [intOf]; omega⟩
    · go_wp2
      go_end0
      exact ⟨rfl, hbw⟩
end Go.Proofs.YtdffpkmabehfbaaDoor
