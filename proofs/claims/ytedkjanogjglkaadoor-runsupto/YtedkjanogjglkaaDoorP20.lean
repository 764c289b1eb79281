/-
  Walk: chiselref.Func.Right.
  Walk: chiselref.Read; what it says is what the program's own reader says.
  A text is one function; its weight by both; no walk.
  Walk: chiselref.Func.Weight.
  Walks: chisellaw.weighed and chisellaw.Checks.
-/
import Derived.Test.YtedkjanogjglkaaDoorP15
import Derived.Test.YtedkjanogjglkaaDoorP16
import Derived.Test.YtedkjanogjglkaaDoorP19
import Derived.Test.YtedkjanogjglkaaDoorP10
import Derived.Test.YtedkjanogjglkaaDoorP17
import Derived.Test.YtedkjanogjglkaaDoorP09

namespace Go.Proofs.YtedkjanogjglkaaDoor.D
open Go.RowKit
open Go.Proofs.YtedkjanogjglkaaDoor.Code (WFF Once Fresh addAll tg nums RightR)
open Go.Proofs.YtedkjanogjglkaaDoor.D.Ref (toF toB toV)

/-- Which v numbers were seen. -/
def seenRow (w : World) (b : Nat) (R : List Bool) : Prop := w.heap[b]? = some (.cells (setA R) 78)

theorem seenRow.cell {w : World} {g : Nat} {R : List Bool} (h : seenRow w g R) (i : Nat) (hi : i < R.length) : w.cell? ⟨g, i, none⟩ = some (.bool R[i]) :=
  blk_cell h i _ (by simp [setA, setL, hi])

theorem seenRow.set {w : World} {g : Nat} {R : List Bool} (h : seenRow w g R) (i : Nat) (b : Bool) : seenRow (w.setCell ⟨g, i, none⟩ (.bool b)) g (R.set i b) := by
  have := set_block (o := i) (v := .bool b) h
  unfold seenRow
  rw [this]
  simp [setA, setL, List.map_set]

/-- What a list of targets must be. -/
def Goes (n : Nat) (l : List Code.Blk) : Prop := ∀ b ∈ l, ∀ t ∈ tg b.last, 1 ≤ t ∧ t < n

theorem Goes.cons {n : Nat} {b : Code.Blk} {l : List Code.Blk} : Goes n (b :: l) ↔ (∀ t ∈ tg b.last, 1 ≤ t ∧ t < n) ∧ Goes n l := by
  unfold Goes
  simp

theorem fresh_cons {R : List Bool} {v : Code.Val} {l : List Code.Val} (hv : R.getD v.num false = false) (hlt : v.num < R.length) : Fresh R (v :: l) ↔ Fresh (R.set v.num true) l :=
  ⟨fun h => h.head.2, fun h => Code.Fresh.cons hv hlt h⟩

theorem fine_of (g : Code.Fn) (hw : WFF g) (hg : Goes g.blocks.length g.blocks) (hv : ∀ b ∈ g.blocks, b.values.length ≤ 1500) : Fine (toF g) := by
  have hm := hw.most
  have hp : 0 < g.blocks.length := List.length_pos_iff.2 hw.some
  refine ⟨by rw [Code.toF_len]; exact hp, by rw [Code.toF_len]; omega, fun j h => ?_, fun j h k hk => ?_, fun j h => ?_⟩
  all_goals
    have hj : j < g.blocks.length := by rw [Code.toF_len] at h; exact h
  · rw [Code.toF_get g j hj, Code.toB_to, List.length_map]
    exact Code.tg_length _
  · have e : ((toF g).Blocks[j]).To[k] = (((tg g.blocks[j].last)[k]'(by simpa [Code.toF_get g j hj, Code.toB_to] using hk) : Nat) : Int) := by
      simp [Code.toF_get g j hj, Code.toB_to]
    rw [e, Code.toF_len]
    have := hg _ (List.getElem_mem hj) _ (List.getElem_mem (by simpa [Code.toF_get g j hj, Code.toB_to] using hk))
    omega
  · rw [Code.toF_get g j hj, Code.toB_values, List.length_map]
    have := hv _ (List.getElem_mem hj)
    omega

theorem args_len (args : Nat) (v : Code.Val) (h : Code.WFT args v.thing) (hl : ∀ of, v.thing = .phi of → of.length ≤ 1500) : (toV v).Args.length ≤ 1000000 := by
  obtain ⟨num, thing⟩ := v
  cases thing with
  | phi of => have := hl of rfl; simp [toV]; omega
  | arg n => simp [toV]
  | const n => simp [toV]
  | apply k of =>
    have h1 := Code.opOf_range k h.1
    have h2 := h.2.1
    simp [toV]; omega

theorem no_iff {p : Prop} (h : ¬ p) : false = true ↔ p := ⟨fun h => Bool.noConfusion h, fun h' => absurd h' h⟩

/-- One block of a function that was parsed: what lies where. -/
theorem rep_at (vals : List Code.Val) (tl : List Nat) (g : Code.Fn) (fb : Nat) (w : World) (hf : RepFunc w fb (toF g)) (j : Nat) (hj : j < g.blocks.length) (e1 : g.blocks[j].values = vals) (e2 : tg g.blocks[j].last = tl) :
    ∃ gb cap pv cv pt ct, w.cell? ⟨fb, 1, none⟩ = some (.slice (some ⟨gb, 0, none⟩) g.blocks.length cap) ∧ w.cell? ⟨gb, j * 4, none⟩ = some (.slice pv vals.length cv) ∧ w.cell? ⟨gb, j * 4 + 3, none⟩ = some (.slice pt tl.length ct) ∧
      (∀ k (h : k < vals.length), ∃ gv, pv = some ⟨gv, 0, none⟩ ∧ w.cell? ⟨gv, k * 4, none⟩ = some (.int .i64 (vals[k].num : Nat))) ∧ (∀ k (h : k < tl.length), ∃ gt, pt = some ⟨gt, 0, none⟩ ∧ w.cell? ⟨gt, k, none⟩ = some (.int .i64 (tl[k] : Nat))) := by
  subst e1 e2
  obtain ⟨gb, cap, f0, f1, hblk⟩ := hf.open (by rw [Code.toF_len]; omega)
  rw [Code.toF_len] at f1
  obtain ⟨vs, to, b0, b1, b2, b3, hvs, hto⟩ := hblk j (by rw [Code.toF_len]; exact hj)
  rw [Code.toF_get g j hj, Code.toB_values] at hvs
  rw [Code.toF_get g j hj, Code.toB_to] at hto
  obtain ⟨pv, cv, rfl, hval⟩ := hvs.open
  obtain ⟨pt, ct, rfl, htv⟩ := ints_open hto
  rw [List.length_map] at b0 b3
  refine ⟨gb, cap, pv, cv, pt, ct, f1, b0, b3, fun k hk => ?_, fun k hk => ?_⟩
  · obtain ⟨gv, a, h1, h2, _⟩ := hval k (by simpa using hk)
    refine ⟨gv, h1, ?_⟩
    rw [h2]; simp [Code.toV_V]
  · obtain ⟨gt, h1, h2⟩ := htv k (by simpa using hk)
    refine ⟨gt, h1, ?_⟩
    rw [h2]; simp

/-- It says whether the function is right. -/
def RightPost (g : Code.Fn) (w : World) (e : Ending) (w' : World) : Prop := ∃ b : Bool, e = .returned (.bool b) ∧ (b = true ↔ RightR g) ∧ Below w.heap.size w w'

set_option maxRecDepth 100000 in
set_option maxHeartbeats 8000000 in
theorem right_any (g : Code.Fn) (fb : Nat) (w : World) (hf : RepFunc w fb (toF g)) (hw : WFF g) (hv : ∀ b ∈ g.blocks, b.values.length ≤ 1500) (hph : ∀ b ∈ g.blocks, ∀ v ∈ b.values, ∀ of, v.thing = .phi of → of.length ≤ 1500) :
    Calls Tryd.prog 21 #[.pointer (some ⟨fb, 0, none⟩)] w (RightPost g w) := by
  have hnum : ∀ b ∈ g.blocks, ∀ v ∈ b.values, v.num < 60 := fun b hb v hv => ((hw.blocks b hb).vals v hv).1
  have hp : 0 < g.blocks.length := List.length_pos_iff.2 hw.some
  have hm := hw.most
  have HF := hide hf
  have HW := hide hw
  have HV := hide hv
  have HPH := hide hph
  have HNUM := hide hnum
  have hfb : fb < w.heap.size := by obtain ⟨v, h1, _⟩ := hf; exact lt_of_block h1
  clear hf hw hv hph hnum
  obtain ⟨P, hP⟩ : ∃ P : Prop, P ↔ (Once noNumber g.blocks ∧ Goes g.blocks.length g.blocks) := ⟨_, Iff.rfl⟩
  have HP := hide hP
  clear hP
  have HNO : Hid (¬ P → ¬ RightR g) := hide fun h h' => h (HP.out.2 ⟨h'.once, h'.goes⟩)
  go_enter Tryd.func21, Tryd.ntmps21
  go_wp2
  generalize hw0 : w.alloc _ = w0
  have hr0 : seenRow w0 w.heap.size noNumber := by
    have h := heap_alloc_new w (.cells (setA noNumber) 78)
    rw [← hw0]; exact h
  have hb0 : Below w.heap.size w w0 := by rw [← hw0]; exact below_al (Below.refl _ _) _
  clear hw0
  go_loopw [4] (fun i wr => ∃ (j : Nat) (R : List Bool), j ≤ g.blocks.length ∧ i = .int .i64 j ∧ R.length = 60 ∧ seenRow wr w.heap.size R ∧ Below w.heap.size w wr ∧ Hid (P ↔ (Once R (g.blocks.drop j) ∧ Goes g.blocks.length (g.blocks.drop j)))) (fun i _ => g.blocks.length - (intOf i).toNat)
  case atStart => exact ⟨0, noNumber, by omega, rfl, rfl, hr0, hb0, HP⟩
  case round =>
    obtain ⟨j, R, hj, rfl, hR, hrow, hbw, hsp⟩ := hrel
    clear hr0 hb0
    have hz := hbw.size
    have hfr := lt_of_block hrow
    by_cases hlt : j < g.blocks.length
    · have HSJ : Hid (P ↔ (Fresh R g.blocks[j].values ∧ Once (addAll R g.blocks[j].values) (g.blocks.drop (j + 1)) ∧ (∀ t ∈ tg g.blocks[j].last, 1 ≤ t ∧ t < g.blocks.length) ∧ Goes g.blocks.length (g.blocks.drop (j + 1)))) := by
        have h := hsp.out
        rw [List.drop_eq_getElem_cons hlt, Goes.cons] at h
        refine hide (h.trans ⟨fun h => ⟨h.1.1, h.1.2, h.2.1, h.2.2⟩, fun h => ⟨⟨h.1, h.2.1⟩, h.2.2.1, h.2.2.2⟩⟩)
      have hvl := HV.out _ (List.getElem_mem hlt)
      have HNM := hide (HNUM.out _ (List.getElem_mem hlt))
      have htl := Code.tg_length g.blocks[j].last
      have HAT : Hid (∀ ws, Below w.heap.size w ws → _) := hide fun ws hb => rep_at g.blocks[j].values (tg g.blocks[j].last) g fb ws (HF.out.below hb) j hlt rfl rfl
      generalize g.blocks[j].values = vals at *
      generalize tg g.blocks[j].last = tl at *
      clear hsp
      obtain ⟨gb, cap, pv, cv, pt, ct, f1, b0, b3, _, _⟩ := HAT.out wr hbw
      go_wp2_with fail
      clear f1 b0 b3
      rename World => wo
      go_loopw [5] (fun i ws => ∃ (k : Nat) (S : List Bool), k ≤ vals.length ∧ i = .int .i64 k ∧ S.length = 60 ∧ seenRow ws w.heap.size S ∧ Below w.heap.size w ws ∧ Hid (P ↔ (Fresh S (vals.drop k) ∧ Once (addAll S (vals.drop k)) (g.blocks.drop (j + 1)) ∧ (∀ t ∈ tl, 1 ≤ t ∧ t < g.blocks.length) ∧ Goes g.blocks.length (g.blocks.drop (j + 1))))) (fun i _ => vals.length - (intOf i).toNat)
      case atStart => exact ⟨0, R, by omega, rfl, hR, hrow, hbw, HSJ⟩
      case round =>
        obtain ⟨k, S, hk, rfl, hS, hrw, hbs, hsp⟩ := hrel
        clear hrow HSJ hR
        have hzs := hbs.size
        obtain ⟨gb, cap, pv, cv, pt, ct, f1, b0, b3, hvc, htc⟩ := HAT.out wr hbs
        by_cases hkt : k < vals.length
        · obtain ⟨gv, rfl, d0⟩ := hvc k hkt
          have hx60 := HNM.out vals[k] (List.getElem_mem hkt)
          have hF := hsp.out
          rw [List.drop_eq_getElem_cons hkt] at hF
          have HN0 : Hid (S.getD vals[k].num false = true → ¬ P) := hide fun h hP => by
            have := (hF.1 hP).1.head.1
            rw [h] at this; cases this
          have HN1 : Hid (S.getD vals[k].num false = false → (P ↔ (Fresh (S.set vals[k].num true) (vals.drop (k + 1)) ∧ Once (addAll (S.set vals[k].num true) (vals.drop (k + 1))) (g.blocks.drop (j + 1)) ∧ (∀ t ∈ tl, 1 ≤ t ∧ t < g.blocks.length) ∧ Goes g.blocks.length (g.blocks.drop (j + 1))))) := hide fun h => by
            rw [fresh_cons h (by omega)] at hF
            exact hF
          clear hF hsp htc b3 hvc
          generalize vals[k].num = x at *
          have hcx0 := hrw.cell x (by omega)
          have hgd : S.getD x false = S[x]'(by omega) := by rw [List.getD_eq_getElem?_getD, List.getElem?_eq_getElem (by omega)]; rfl
          rw [hgd] at HN0 HN1
          have hfx := blk_froz hrw x
          have hx' : (x : Int) < 60 := by omega
          have hl1 := lt_of_block hrw
          generalize S[x]'(by omega) = sx at *
          clear hgd
          cases sx with
          | false =>
            go_wp2
            exact ⟨⟨k + 1, S.set x true, by omega, by go_num, by simp [hS], hrw.set x true, below_set hbs (Nat.le_refl _) _ _, hide (HN1.out rfl)⟩, by simp [intOf]; omega⟩
          | true =>
            have HNP := hide (HN0.out rfl)
            clear HN0 HN1
            go_wp2
            go_ret
            exact ⟨false, rfl, no_iff (HNO.out HNP.out), hbs⟩
        · have HSE : Hid (P ↔ (Once S (g.blocks.drop (j + 1)) ∧ (∀ t ∈ tl, 1 ≤ t ∧ t < g.blocks.length) ∧ Goes g.blocks.length (g.blocks.drop (j + 1)))) := by
            have h := hsp.out
            rw [List.drop_of_length_le (by omega)] at h
            exact hide (h.trans ⟨fun h => h.2, fun h => ⟨⟨by simp [nums], by simp [nums]⟩, h⟩⟩)
          clear hsp hvc htc
          go_wp2_with fail
          clear f1 b0 b3
          rename World => wo2
          go_loopw [7] (fun i ws => ∃ (q : Nat), q ≤ tl.length ∧ i = .int .i64 q ∧ seenRow ws w.heap.size S ∧ Below w.heap.size w ws ∧ Hid (P ↔ (Once S (g.blocks.drop (j + 1)) ∧ (∀ t ∈ tl.drop q, 1 ≤ t ∧ t < g.blocks.length) ∧ Goes g.blocks.length (g.blocks.drop (j + 1))))) (fun i _ => tl.length - (intOf i).toNat)
          case atStart => exact ⟨0, by omega, rfl, hrw, hbs, HSE⟩
          case round =>
            obtain ⟨q, hq, rfl, hrq, hbq, hsp⟩ := hrel
            clear hrw HSE
            obtain ⟨gb, cap, pv, cv, pt, ct, f1, b0, b3, hvc, htc⟩ := HAT.out wr hbq
            clear hvc
            by_cases hqt : q < tl.length
            · obtain ⟨gt, rfl, d0⟩ := htc q hqt
              have hF := hsp.out
              rw [List.drop_eq_getElem_cons hqt] at hF
              by_cases hgood : 1 ≤ tl[q] ∧ tl[q] < g.blocks.length
              · have HN : Hid (P ↔ (Once S (g.blocks.drop (j + 1)) ∧ (∀ t ∈ tl.drop (q + 1), 1 ≤ t ∧ t < g.blocks.length) ∧ Goes g.blocks.length (g.blocks.drop (j + 1)))) := by
                  refine hide (hF.trans ⟨fun h => ⟨h.1, fun t ht => h.2.1 t (List.mem_cons_of_mem _ ht), h.2.2⟩, fun h => ⟨h.1, fun t ht => ?_, h.2.2⟩⟩)
                  rcases List.mem_cons.1 ht with rfl | ht
                  · exact hgood
                  · exact h.2.1 t ht
                obtain ⟨t1, t2⟩ := hgood
                generalize tl[q] = tq at *
                have t1' : ((tq : Int) == 0) = false := beq_eq_false_iff_ne.2 (by omega)
                have t2' : ¬ (g.blocks.length : Int) ≤ (tq : Int) := by omega
                clear hF hsp htc
                go_wp2
                exact ⟨⟨q + 1, by omega, by go_num, hrq, hbq, HN⟩, by simp [intOf]; omega⟩
              · have HN : Hid (¬ P) := hide fun h => hgood ((hF.1 h).2.1 _ List.mem_cons_self)
                generalize tl[q] = tq at *
                clear hF hsp htc
                by_cases t1 : tq = 0
                · have t1' : ((tq : Int) == 0) = true := by rw [t1]; rfl
                  clear hgood
                  go_wp2
                  go_ret
                  exact ⟨false, rfl, no_iff (HNO.out HN.out), hbq⟩
                · have t1' : ((tq : Int) == 0) = false := beq_eq_false_iff_ne.2 (by omega)
                  have t2' : (g.blocks.length : Int) ≤ (tq : Int) := by
                    rcases Nat.lt_or_ge tq g.blocks.length with h | h
                    · exact absurd ⟨by omega, h⟩ hgood
                    · omega
                  clear hgood
                  go_wp2
                  go_ret
                  exact ⟨false, rfl, no_iff (HNO.out HN.out), hbq⟩
            · have HN : Hid (P ↔ (Once S (g.blocks.drop (j + 1)) ∧ Goes g.blocks.length (g.blocks.drop (j + 1)))) := by
                have h := hsp.out
                rw [List.drop_of_length_le (l := tl) (i := q) (by omega)] at h
                exact hide (h.trans ⟨fun h => ⟨h.1, h.2.2⟩, fun h => ⟨h.1, by simp, h.2⟩⟩)
              clear hsp htc
              go_wp2
              exact ⟨⟨j + 1, S, by omega, by go_num, hS, hrq, hbq, HN⟩, by simp [intOf]; omega⟩
    · have HPP : Hid P := hide (hsp.out.2 (by rw [List.drop_of_length_le (by omega)]; exact ⟨trivial, by intro b hb; simp at hb⟩))
      clear hsp
      rename World => wz
      have HONE := hide (HP.out.1 HPP.out)
      have HFI := hide (fine_of g HW.out HONE.out.2 HV.out)
      obtain ⟨gb, cap, f0, f1, hblk⟩ := (HF.out.below hbw).open (by rw [Code.toF_len]; exact hp)
      rw [Code.toF_len] at f1
      clear hblk f0
      go_wp2_with fail
      refine (reach_any (toF g) fb (-1) wz (HF.out.below hbw) HFI.out).mono ?_
      rintro e w1 ⟨RR, rfl, hRl, hrow1, hRi, hb1⟩
      rw [Code.toF_len] at hRl ⊢
      have hbw1 : Below w.heap.size w w1 := hbw.trans (hb1.mono hbw.size)
      have HRI := hide hRi
      generalize wz.heap.size = rb at *
      clear hRi f1 hrow hR
      go_wp2_with fail
      go_loopw [10] (fun i ws => ∃ (q : Nat), q ≤ g.blocks.length ∧ i = .int .i64 q ∧ ws = w1 ∧ Hid (∀ i (h : i < RR.length), i < q → RR[i] = true)) (fun i _ => g.blocks.length - (intOf i).toNat)
      case atStart => exact ⟨0, by omega, rfl, rfl, hide fun i h h' => by omega⟩
      case round =>
        obtain ⟨q, hq, rfl, hw1, hsp⟩ := hrel
        subst hw1
        obtain ⟨gb, cap, f0, f1, hblk⟩ := (HF.out.below hbw1).open (by rw [Code.toF_len]; exact hp)
        rw [Code.toF_len] at f1
        clear hblk f0
        by_cases hqt : q < g.blocks.length
        · have hc := hrow1.cell q (by omega)
          have HRQ := hide (HRI.out q (by omega))
          have HN : Hid (RR[q]'(by omega) = true → ∀ i (h : i < RR.length), i < q + 1 → RR[i] = true) := hide fun e i h h' => by
            by_cases hiq : i < q
            · exact hsp.out i h hiq
            · obtain rfl : i = q := by omega
              exact e
          generalize RR[q]'(by omega) = sx at *
          clear hsp
          cases sx with
          | true =>
            go_wp2
            exact ⟨⟨q + 1, by omega, by go_num, trivial, hide (HN.out rfl)⟩, by simp [intOf]; omega⟩
          | false =>
            have HNR : Hid (¬ RightR g) := hide fun h => Bool.noConfusion (HRQ.out.2 ⟨by omega, h.reached q hqt⟩)
            clear HRQ HN
            go_wp2
            go_ret
            exact ⟨false, rfl, no_iff HNR.out, hbw1⟩
        · have HRE : Hid (∀ i, i < g.blocks.length → Ref.Reach (toF g) (-1) i) := hide fun i hi => ((HRI.out i (by omega)).1 (hsp.out i (by omega) (by omega))).2
          clear hsp
          go_wp2_with fail
          clear hrow1 f1
          rename World => wy
          go_loopw [11] (fun i ws => ∃ (q : Nat), q ≤ g.blocks.length ∧ i = .int .i64 q ∧ Below w.heap.size w ws ∧ Hid (∀ i (h : i < (toF g).Blocks.length), i < q → Ref.Uses (toF g) i h)) (fun i _ => g.blocks.length - (intOf i).toNat)
          case atStart => exact ⟨0, by omega, rfl, hbw1, hide fun i h h' => by omega⟩
          case round =>
            obtain ⟨q, hq, rfl, hbq, hsp⟩ := hrel
            obtain ⟨gb, cap, f0, f1, hblk⟩ := (HF.out.below hbq).open (by rw [Code.toF_len]; exact hp)
            rw [Code.toF_len] at f1
            clear hblk f0
            by_cases hqt : q < g.blocks.length
            · have hq2 : q < (toF g).Blocks.length := by rw [Code.toF_len]; exact hqt
              have HAL : Hid (∀ k (h : k < (toF g).Blocks[q].Values.length), (toF g).Blocks[q].Values[k].Args.length ≤ 1000000) := hide fun k hk => by
                have hk' : k < g.blocks[q].values.length := by simpa [Code.toF_get g q hqt, Code.toB_values] using hk
                have e : (toF g).Blocks[q].Values[k] = toV g.blocks[q].values[k] := by simp [Code.toF_get g q hqt, Code.toB_values]
                rw [e]
                exact args_len g.args _ ((HW.out.blocks _ (List.getElem_mem hqt)).vals _ (List.getElem_mem hk')).2 (HPH.out _ (List.getElem_mem hqt) _ (List.getElem_mem hk'))
              go_wp2_with fail
              refine (uses_any (toF g) fb q wr (HF.out.below hbq) HFI.out hq2 HAL.out).mono ?_
              rintro e w2 ⟨b, rfl, hbi, hb2⟩
              have hbw2 : Below w.heap.size w w2 := hbq.trans (hb2.mono hbq.size)
              have HBI := hide hbi
              clear hbi hb2 HAL
              cases b with
              | true =>
                have HN : Hid (∀ i (h : i < (toF g).Blocks.length), i < q + 1 → Ref.Uses (toF g) i h) := hide fun i h h' => by
                  by_cases hiq : i < q
                  · exact hsp.out i h hiq
                  · obtain rfl : i = q := by omega
                    exact HBI.out.1 rfl
                clear hsp
                go_wp2
                exact ⟨⟨q + 1, by omega, by go_num, hbw2, HN⟩, by simp [intOf]; omega⟩
              | false =>
                have HNR : Hid (¬ RightR g) := hide fun h => Bool.noConfusion (HBI.out.2 (h.uses q hq2))
                clear hsp
                go_wp2
                go_ret
                exact ⟨false, rfl, no_iff HNR.out, hbw2⟩
            · have HRR : Hid (RightR g) := hide ⟨HONE.out.1, HONE.out.2, HRE.out, fun i h => hsp.out i h (by rw [Code.toF_len] at h; omega)⟩
              clear hsp
              go_wp2
              go_ret
              exact ⟨true, rfl, ⟨fun _ => HRR.out, fun _ => rfl⟩, hbq⟩
end Go.Proofs.YtedkjanogjglkaaDoor.D


namespace Go.Proofs.YtedkjanogjglkaaDoor.D
open Go.RowKit
open Go.Proofs.YtedkjanogjglkaaDoor.Code (WFF RightR textF clip)
open Go.Proofs.YtedkjanogjglkaaDoor.D.Ref (toF)

theorem mem_len {α : Type} (f : α → List UInt8) (l : List α) (x : α) (h : x ∈ l) : (f x).length ≤ (l.flatMap f).length := by
  induction l with
  | nil => simp at h
  | cons a l ih =>
    rw [List.flatMap_cons, List.length_append]
    rcases List.mem_cons.1 h with rfl | h
    · omega
    · have := ih h
      omega

theorem ofText_len (of : List Nat) : of.length ≤ (Code.ofText of).length := by
  induction of with
  | nil => simp
  | cons x l ih => simp [Code.ofText]; omega

theorem blocksG_mem : ∀ (l : List Code.Blk) (k : Nat), ∀ b ∈ l, (Code.linesG b.values).length ≤ (Code.blocksG k l).length
  | [], _, b, hb => by simp at hb
  | a :: l, k, b, hb => by
    have e : (Code.blocksG k (a :: l)).length = (Code.blockG k a).length + (Code.blocksG (k + 1) l).length := by simp [Code.blocksG]
    rw [e]
    rcases List.mem_cons.1 hb with rfl | hb
    · have : (Code.linesG b.values).length ≤ (Code.blockG k b).length := by simp [Code.blockG]; omega
      omega
    · have := blocksG_mem l (k + 1) b hb
      omega

theorem vals_len {g : Code.Fn} (hs : (textF g).length ≤ 1500) : (∀ b ∈ g.blocks, b.values.length ≤ 1500) ∧ ∀ b ∈ g.blocks, ∀ v ∈ b.values, ∀ of, v.thing = .phi of → of.length ≤ 1500 := by
  have h0 : (Code.blocksG 0 g.blocks).length ≤ (textF g).length := by simp [textF]; omega
  refine ⟨fun b hb => ?_, fun b hb v hv of e => ?_⟩
  · have := Code.blocksG_len g.blocks 0 b hb
    omega
  · have h1 := blocksG_mem g.blocks 0 b hb
    have h2 := mem_len Code.lineG b.values v hv
    have h3 := ofText_len of
    have h4 : (Code.ofText of).length ≤ (Code.lineG v).length := by
      obtain ⟨num, thing⟩ := v
      simp only at e
      subst e
      simp [Code.lineG, Code.textG]; omega
    have h5 : (b.values.flatMap Code.lineG).length = (Code.linesG b.values).length := rfl
    omega

/-- What Read hands back. -/
def ReadPost (s : ByteArray) (w : World) (e : Ending) (w' : World) : Prop :=
  ((∃ er, Code.ErrOf (bl s) er ∧ e = .returned (.tuple #[.pointer none, .int .i64 er])) ∨
   ∃ g fb, bl s = textF g ∧ (bl s).length ≤ 1500 ∧ WFF g ∧ RightR g ∧ e = .returned (.tuple #[.pointer (some ⟨fb, 0, none⟩), .int .i64 0]) ∧ w.heap.size ≤ fb ∧ RepFunc w' fb (toF g)) ∧ Below w.heap.size w w'

theorem parse_none {s : List UInt8} (h : Ref.parse s = none) : Code.ErrOf s 1 := by
  refine Code.ErrOf.text ?_
  by_cases hl : 1500 < s.length
  · exact Or.inl hl
  · refine Or.inr fun f hf => ?_
    obtain ⟨g, rfl, h2, _⟩ := Code.fnIs_inv hf
    rw [Ref.parse_of g h2 (by omega)] at h
    cases h

set_option maxHeartbeats 2000000 in
theorem read_any (s : ByteArray) (w : World) (hs : s.size ≤ 16777000) :
    Calls Tryd.prog 8 #[.string s] w (ReadPost s w) := by
  have HP := hide (parse_any s w hs)
  go_enter Tryd.func8, Tryd.ntmps8
  go_wp2_with fail
  refine HP.out.mono ?_
  rintro e w1 ⟨⟨hn, rfl⟩ | ⟨f, fb, hy, rfl, hfb, hrep⟩, hb1⟩
  · have HN := hide (parse_none hn)
    clear hn
    go_wp2
    go_ret2
    exact ⟨Or.inl ⟨1, HN.out, rfl⟩, hb1⟩
  · obtain ⟨g, h1, h2, rfl, h4⟩ := Ref.parse_inv hy
    have H1 := hide h1
    have H2 := hide h2
    have H4 := hide h4
    have HREP := hide hrep
    have HL := hide (vals_len (g := g) (by rw [← h1]; exact h4))
    clear hy h1 h2 h4 hrep
    go_wp2_with fail
    refine (right_any g fb w1 HREP.out H2.out HL.out.1 HL.out.2).mono ?_
    rintro e w2 ⟨b, rfl, hbi, hb2⟩
    have hbw2 : Below w.heap.size w w2 := hb1.trans (hb2.mono hb1.size)
    have HW : Hid (Code.Wf (clip g).blocks) := hide (Code.wf_of H2.out (by rw [← H1.out]; exact H4.out))
    cases b with
    | false =>
      have HE : Hid (Code.ErrOf (bl s) 2) := hide (Code.ErrOf.form (f := clip g) H4.out (by rw [H1.out]; exact Code.textF_is g H2.out) fun h => Bool.noConfusion (hbi.2 ((Code.right_iff g H2.out HW.out).1 h)))
      clear hbi
      go_wp2
      go_ret2
      exact ⟨Or.inl ⟨2, HE.out, rfl⟩, hbw2⟩
    | true =>
      have HR := hide (hbi.1 rfl)
      clear hbi
      go_wp2
      go_ret2
      exact ⟨Or.inr ⟨g, fb, H1.out, H4.out, H2.out, HR.out, rfl, hfb, HREP.out.below hb2⟩, hbw2⟩
end Go.Proofs.YtedkjanogjglkaaDoor.D


namespace Go.Proofs.YtedkjanogjglkaaDoor.Code
open Go.Proofs.YtedkjanogjglkaaDoor.D.Ref (toV toL toB toF mkBlk)

theorem cast_inj : ∀ (a b : List Nat), (a.map fun (x : Nat) => (x : Int)) = (b.map fun (x : Nat) => (x : Int)) → a = b
  | [], [], _ => rfl
  | [], _ :: _, h => by simp at h
  | _ :: _, [], h => by simp at h
  | x :: a, y :: b, h => by
    simp only [List.map_cons, List.cons.injEq] at h
    have h1 : x = y := by omega
    rw [h1, cast_inj a b h.2]

theorem name_inj : ∀ k, k < 13 → ∀ k', k' < 13 → nameOf k = nameOf k' → k = k' := by decide

theorem toV_inj {args : Nat} {v v' : Val} (h : WFT args v.thing) (h' : WFT args v'.thing) (e : toV v = toV v') : v = v' := by
  obtain ⟨n, t⟩ := v
  obtain ⟨n', t'⟩ := v'
  cases t <;> cases t' <;> simp only [toV, Ref.RVal.mk.injEq] at e
  case phi.phi a b => rw [show n = n' by omega, cast_inj _ _ e.2.2.2]
  case phi.arg => exact absurd e.2.1 (by decide)
  case phi.const => exact absurd e.2.1 (by decide)
  case phi.apply a k b => exact absurd e.2.1.symm (D.Ref.arity_name k h'.1).2.2.2.2.1
  case arg.phi => exact absurd e.2.1 (by decide)
  case arg.arg a b => rw [show n = n' by omega, show a = b by omega]
  case arg.const => exact absurd e.2.1 (by decide)
  case arg.apply a k b => exact absurd e.2.1.symm (D.Ref.arity_name k h'.1).2.2.2.1
  case const.phi => exact absurd e.2.1 (by decide)
  case const.arg => exact absurd e.2.1 (by decide)
  case const.const a b => rw [show n = n' by omega, show a = b by omega]
  case const.apply a k b => exact absurd e.2.1.symm (D.Ref.arity_name k h'.1).2.2.1
  case apply.phi k a b => exact absurd e.2.1 (D.Ref.arity_name k h.1).2.2.2.2.1
  case apply.arg k a b => exact absurd e.2.1 (D.Ref.arity_name k h.1).2.2.2.1
  case apply.const k a b => exact absurd e.2.1 (D.Ref.arity_name k h.1).2.2.1
  case apply.apply k a k' b => rw [show n = n' by omega, name_inj k h.1 k' h'.1 e.2.1, cast_inj _ _ e.2.2.2]

theorem toL_inj {z z' : Last} (e : toL z = toL z') : z = z' := by
  cases z <;> cases z' <;> simp only [toL, Ref.RLast.mk.injEq] at e
  case ret.ret a b => rw [show a = b by omega]
  case ret.jump => exact absurd e.1 (by decide)
  case ret.ifs => exact absurd e.1 (by decide)
  case jump.ret => exact absurd e.1 (by decide)
  case jump.jump a b =>
    have := e.2.2
    simp only [List.cons.injEq] at this
    rw [show a = b by omega]
  case jump.ifs => exact absurd e.1 (by decide)
  case ifs.ret => exact absurd e.1 (by decide)
  case ifs.jump => exact absurd e.1 (by decide)
  case ifs.ifs a b c a' b' c' =>
    have := e.2.2
    simp only [List.cons.injEq] at this
    rw [show a = a' by omega, show b = b' by omega, show c = c' by omega]

theorem map_inj {α β : Type} (f : α → β) (P : α → Prop) (hf : ∀ a b, P a → P b → f a = f b → a = b) : ∀ (l l' : List α), (∀ a ∈ l, P a) → (∀ a ∈ l', P a) → l.map f = l'.map f → l = l'
  | [], [], _, _, _ => rfl
  | [], _ :: _, _, _, h => by simp at h
  | _ :: _, [], _, _, h => by simp at h
  | a :: l, b :: l', h1, h2, h => by
    simp only [List.map_cons, List.cons.injEq] at h
    rw [hf a b (h1 a List.mem_cons_self) (h2 b List.mem_cons_self) h.1, map_inj f P hf l l' (fun x hx => h1 x (List.mem_cons_of_mem _ hx)) (fun x hx => h2 x (List.mem_cons_of_mem _ hx)) h.2]

theorem toB_inj {args : Nat} {b b' : Blk} (h : WFB args b) (h' : WFB args b') (e : toB b = toB b') : b = b' := by
  obtain ⟨vs, z⟩ := b
  obtain ⟨vs', z'⟩ := b'
  simp only [toB, mkBlk, D.Ref.RBlk.mk.injEq] at e
  have e1 : vs = vs' := map_inj toV (fun v => WFT args v.thing) (fun a b ha hb => toV_inj ha hb) vs vs' (fun v hv => (h.vals v hv).2) (fun v hv => (h'.vals v hv).2) e.1
  have e2 : toL z = toL z' := by
    obtain ⟨_, h1, h2, h3⟩ := e
    cases hz : toL z with
    | mk a b c =>
      cases hz' : toL z' with
      | mk a' b' c' =>
        rw [hz, hz'] at h1 h2 h3
        simp only at h1 h2 h3
        rw [h1, h2, h3]
  rw [e1, toL_inj e2]

theorem toF_inj {g g' : Fn} (h : WFF g) (h' : WFF g') (e : toF g = toF g') : g = g' := by
  obtain ⟨a, bks⟩ := g
  obtain ⟨a', bks'⟩ := g'
  simp only [toF, D.Ref.RFunc.mk.injEq] at e
  have ea : a = a' := by omega
  subst ea
  rw [map_inj toB (WFB a) (fun b b' hb hb' => toB_inj hb hb') bks bks' h.blocks h'.blocks e.2]

theorem textF_inj {g g' : Fn} (h : WFF g) (h' : WFF g') (hs : (textF g).length ≤ 1500) (e : textF g = textF g') : g = g' := by
  have h1 := D.Ref.parse_of g h hs
  have h2 := D.Ref.parse_of g' h' (by rw [← e]; exact hs)
  rw [e, h2] at h1
  exact toF_inj h h' (Option.some.inj h1).symm

theorem FnIs.det {s : List UInt8} {f f' : Fn} (h : FnIs s f) (h' : FnIs s f') (hs : s.length ≤ 1500) : f = f' := by
  obtain ⟨g, rfl, h2, rfl⟩ := fnIs_inv h
  obtain ⟨g', e, h2', rfl⟩ := fnIs_inv h'
  rw [textF_inj h2 h2' hs e]

theorem ErrOf.det {s : List UInt8} {a b : Int} (h : ErrOf s a) (h' : ErrOf s b) : a = b := by
  cases h with
  | text h =>
    cases h' with
    | text h' => rfl
    | form h1 h2 _ =>
      rcases h with h | h
      · omega
      · exact absurd h2 (h _)
  | form h1 h2 _ =>
    cases h' with
    | text h =>
      rcases h with h | h
      · omega
      · exact absurd h2 (h _)
    | form => rfl

theorem ErrOf.not {s : List UInt8} {a : Int} {f : Fn} (h : ErrOf s a) (hs : s.length ≤ 1500) (hf : FnIs s f) (hr : Right f.blocks) : False := by
  cases h with
  | text h =>
    rcases h with h | h
    · omega
    · exact h _ hf
  | form h1 h2 h3 =>
    rw [FnIs.det h2 hf hs] at h3
    exact h3 hr

/-- What is right by the document's answer. -/
theorem right_of {g : Fn} (hw : WFF g) (hs : (textF g).length ≤ 1500) (hr : RightR g) : FnIs (textF g) g ∧ Right g.blocks := by
  have hc := clip_eq hw.most hr.goes
  have h1 := textF_is g hw
  have h2 := (right_iff g hw (wf_of hw hs)).2 hr
  rw [hc] at h1 h2
  exact ⟨h1, h2⟩

theorem weight_toV (v : Val) (args : Nat) (h : WFT args v.thing) : Ref.weight (toV v).Op = weightT v.thing := by
  obtain ⟨n, t⟩ := v
  cases t with
  | phi of => rfl
  | arg n => rfl
  | const n => rfl
  | apply k of =>
    have hk : k < 13 := h.1
    show Ref.weight (nameOf k) = opW k
    match k, hk with
    | 0, _ | 1, _ | 2, _ | 3, _ | 4, _ | 5, _ | 6, _ | 7, _ | 8, _ | 9, _ | 10, _ | 11, _ | 12, _ => rfl

theorem sumVals_toV (args : Nat) : ∀ (l : List Val), (∀ v ∈ l, WFT args v.thing) → D.Ref.sumVals (l.map toV) = sumV l := by
  intro l h
  have : ∀ (l : List Val) (n : Int), (∀ v ∈ l, WFT args v.thing) → (l.map toV).foldl (fun n x => n + Ref.weight x.Op) n = l.foldl (fun n v => n + weightT v.thing) n := by
    intro l
    induction l with
    | nil => intro n _; rfl
    | cons v l ih =>
      intro n h
      simp only [List.map_cons, List.foldl_cons]
      rw [weight_toV v args (h v List.mem_cons_self), ih _ (fun x hx => h x (List.mem_cons_of_mem _ hx))]
  exact this l 0 h

theorem sumBlks_toB (args : Nat) (l : List Blk) (h : ∀ b ∈ l, WFB args b) : D.Ref.sumBlks (l.map toB) = sumB l := by
  have : ∀ (l : List Blk) (n : Int), (∀ b ∈ l, WFB args b) → (l.map toB).foldl (fun n b => n + D.Ref.sumVals b.Values) n = l.foldl (fun n b => n + sumV b.values) n := by
    intro l
    induction l with
    | nil => intro n _; rfl
    | cons b l ih =>
      intro n h
      simp only [List.map_cons, List.foldl_cons]
      rw [toB_values, sumVals_toV args b.values (fun v hv => ((h b List.mem_cons_self).vals v hv).2), ih _ (fun x hx => h x (List.mem_cons_of_mem _ hx))]
  exact this l 0 h
end Go.Proofs.YtedkjanogjglkaaDoor.Code


namespace Go.Proofs.YtedkjanogjglkaaDoor.D
open Go.RowKit

theorem take_snoc {α : Type} (l : List α) (k : Nat) (h : k < l.length) : l.take (k + 1) = l.take k ++ [l[k]] := by
  rw [List.take_add_one, List.getElem?_eq_getElem h]; rfl

set_option maxRecDepth 100000 in
set_option maxHeartbeats 2000000 in
theorem weightF_any (f : Ref.RFunc) (fb : Nat) (w : World) (hf : RepFunc w fb f) (hn : 0 < f.Blocks.length) (hb : f.Blocks.length ≤ 1000000) (hc : Ref.countBlks f.Blocks ≤ 1000000) :
    Calls Tryd.prog 12 #[.pointer (some ⟨fb, 0, none⟩)] w fun e w' => e = .returned (.int .i64 (Ref.sumBlks f.Blocks)) ∧ w' = w := by
  obtain ⟨gb, cap, f0, f1, hblk⟩ := hf.open hn
  have HBLK := hide hblk
  clear hblk hf
  go_enter Tryd.func12, Tryd.ntmps12
  go_wp2
  go_loop [3, 4, 5] (fun n i _ => ∃ j : Nat, j ≤ f.Blocks.length ∧ i = .int .i64 j ∧ n = .int .i64 (Ref.sumBlks (f.Blocks.take j))) (fun _ i _ => f.Blocks.length - (intOf i).toNat)
  case atStart => exact ⟨0, Nat.zero_le _, rfl, rfl⟩
  case round =>
    obtain ⟨j, hj, rfl, rfl⟩ := hrel
    by_cases hlt : j < f.Blocks.length
    · obtain ⟨vs, to, b0, b1, b2, b3, hvs, hto⟩ := HBLK.out j hlt
      obtain ⟨p, vcap, rfl, hval⟩ := hvs.open
      have HVAL := hide hval
      clear hval hvs hto b1 b2 b3
      have hsn := Ref.sumBlks_snoc (f.Blocks.take j) f.Blocks[j]
      have hcn := Ref.countBlks_snoc (f.Blocks.take j) f.Blocks[j]
      rw [← take_snoc f.Blocks j hlt] at hsn hcn
      have hcl := Ref.countBlks_le f.Blocks (j + 1)
      have hr1 := Ref.sumBlks_range (f.Blocks.take j)
      have HSN := hide hsn
      clear hsn
      generalize Ref.sumBlks (f.Blocks.take j) = S at *
      have hS0 := hr1.1
      have hS1 : S ≤ 20000000 := by omega
      have hl1 : f.Blocks[j].Values.length ≤ 1000000 := by omega
      clear hr1 hcn hcl
      generalize f.Blocks[j].Values = vl at *
      go_wp2
      go_loop [3, 5] (fun n k => ∃ m : Nat, m ≤ vl.length ∧ k = .int .i64 m ∧ n = .int .i64 (S + Ref.sumVals (vl.take m))) (fun _ k => vl.length - (intOf k).toNat)
      case atStart => exact ⟨0, Nat.zero_le _, rfl, by simp [Ref.sumVals]⟩
      case round =>
        obtain ⟨m, hm, rfl, rfl⟩ := hrel
        by_cases hmt : m < vl.length
        · obtain ⟨g, a, rfl, v0, v1, v2, v3, _⟩ := HVAL.out m hmt
          have hs2 := Ref.sumVals_snoc (vl.take m) vl[m]
          rw [← take_snoc vl m hmt] at hs2
          have HS2 := hide hs2
          clear hs2
          have hr2 := Ref.sumVals_range (vl.take m)
          have hlt2 : (vl.take m).length ≤ 1000000 := by have := List.length_take_le' m vl; omega
          have hw := Ref.weight_range vl[m].Op
          generalize Ref.sumVals (vl.take m) = T at *
          have hT0 := hr2.1
          have hT1 : T ≤ 20000000 := by omega
          obtain ⟨hw0, hw1⟩ := hw
          clear hr2 hlt2
          go_wp2_with fail
          refine (weight_bs vl[m].Op _).mono ?_
          rintro e w' ⟨rfl, rfl⟩
          generalize hW : Ref.weight vl[m].Op = W at *
          have HW := hide hW
          clear hW
          go_wp2
          refine ⟨⟨m + 1, by omega, by go_num, ?_⟩, by simp [intOf]; omega⟩
          rw [HS2.out]; congr 1; omega
        · have HT := hide (show vl.take m = vl from List.take_of_length_le (by omega))
          go_wp2
          refine ⟨⟨j + 1, by omega, by go_num, ?_⟩, by simp [intOf]; omega⟩
          rw [HSN.out, HT.out]
    · have HT := hide (show f.Blocks.take j = f.Blocks from List.take_of_length_le (by omega))
      go_wp2
      go_ret
      exact ⟨ret_int (by rw [HT.out]), rfl⟩
end Go.Proofs.YtedkjanogjglkaaDoor.D


namespace Go.Proofs.YtedkjanogjglkaaDoor
open Go.RowKit

namespace Code
def textB : List UInt8 := [102, 117, 110, 99, 32, 49, 10, 98, 48, 58, 10, 114, 101, 116, 32, 118, 48, 10]
def fnB : Fn := ⟨1, [⟨[], .ret 0⟩]⟩
theorem isB : FnIs textB fnB := fnF_sound (by kernel_rfl)
theorem wrongB : ¬ Right fnB.blocks := fun h => by
  have hi : Iter fnB.blocks (startTo fnB.blocks.length fnB.blocks.length) [noNumber] := iterF_sound 3 _ _ _ (by kernel_rfl)
  have := (h.ahead [noNumber] rfl (fun R hR => by rw [List.mem_singleton.1 hR]; rfl) hi 0 (by decide) (by simp)).2.1
  revert this
  decide
end Code

theorem checkW1 (w : World) (ht : Tab w) : Calls Tryd.prog 9 #[.string (bs Code.textW1)] w fun e w' => e = .returned (.int .i64 0) ∧ Below w.heap.size w w' := by
  refine (check_any (bs Code.textW1) w ht).mono ?_
  rw [bl_bs]
  rintro e w' ⟨⟨er, h1, _⟩ | ⟨f, _, _, _, rfl⟩, hb⟩
  · exact (h1.not (by decide) Code.isW1 Code.rightW1).elim
  · exact ⟨rfl, hb⟩

theorem weightW1 (w : World) (ht : Tab w) : Calls Tryd.prog 10 #[.string (bs Code.textW1)] w fun e w' => e = .returned (.tuple #[.int .i64 13, .int .i64 0]) ∧ Below w.heap.size w w' := by
  refine (weight_any (bs Code.textW1) w ht).mono ?_
  rw [bl_bs]
  rintro e w' ⟨⟨er, h1, _⟩ | ⟨f, h1, h2, _, rfl⟩, hb⟩
  · exact (h1.not (by decide) Code.isW1 Code.rightW1).elim
  · rw [Code.FnIs.det h2 Code.isW1 h1]
    exact ⟨rfl, hb⟩

theorem checkB (w : World) (ht : Tab w) : Calls Tryd.prog 9 #[.string (bs Code.textB)] w fun e w' => e = .returned (.int .i64 2) ∧ Below w.heap.size w w' := by
  refine (check_any (bs Code.textB) w ht).mono ?_
  rw [bl_bs]
  rintro e w' ⟨⟨er, h1, rfl⟩ | ⟨f, h1, h2, h3, _⟩, hb⟩
  · have : er = 2 := h1.det (Code.ErrOf.form (by decide) Code.isB Code.wrongB)
    subst this
    exact ⟨rfl, hb⟩
  · rw [Code.FnIs.det h2 Code.isB h1] at h3
    exact absurd h3 Code.wrongB

set_option maxHeartbeats 2000000 in
theorem weighed_any (w : World) (ht : Tab w) : Calls Tryd.prog 7 #[] w fun e w' => e = .returned (.bool true) ∧ Below w.heap.size w w' := by
  have HT := hide ht
  have HC : Hid (∀ w', Below w.heap.size w w' → Calls Tryd.prog 9 #[.string (bs Code.textW1)] w' fun e w'' => e = .returned (.int .i64 0) ∧ Below w'.heap.size w' w'') := hide fun w' h => checkW1 w' (HT.out.below h)
  have HW : Hid (∀ w', Below w.heap.size w w' → Calls Tryd.prog 10 #[.string (bs Code.textW1)] w' fun e w'' => e = .returned (.tuple #[.int .i64 13, .int .i64 0]) ∧ Below w'.heap.size w' w'') := hide fun w' h => weightW1 w' (HT.out.below h)
  have HB : Hid (∀ w', Below w.heap.size w w' → Calls Tryd.prog 9 #[.string (bs Code.textB)] w' fun e w'' => e = .returned (.int .i64 2) ∧ Below w'.heap.size w' w'') := hide fun w' h => checkB w' (HT.out.below h)
  clear ht
  go_enter Tryd.func7, Tryd.ntmps7
  go_wp2_with fail
  refine (HC.out w (Below.refl _ _)).mono ?_
  rintro e w1 ⟨rfl, hb1⟩
  go_wp2_with fail
  refine (HW.out w1 hb1).mono ?_
  rintro e w2 ⟨rfl, hb2⟩
  have hbw2 : Below w.heap.size w w2 := hb1.trans (hb2.mono hb1.size)
  go_wp2_with fail
  refine (HB.out w2 hbw2).mono ?_
  rintro e w3 ⟨rfl, hb3⟩
  have hbw3 : Below w.heap.size w w3 := hbw2.trans (hb3.mono hbw2.size)
  go_wp2
  go_ret
  exact ⟨rfl, hbw3⟩

theorem num_any (n : Int) (w : World) : Calls Tryd.prog 11 #[.int .i64 n] w fun e w' => e = .returned (.int .i64 n) ∧ w' = w := by
  go_enter Tryd.func11, Tryd.ntmps11
  go_wp2
  go_ret
  exact ⟨rfl, rfl⟩

theorem count_len (l : List D.Ref.RBlk) (h : ∀ b ∈ l, b.Values.length ≤ 1500) : D.Ref.countBlks l ≤ 1500 * l.length := by
  have : ∀ (l : List D.Ref.RBlk) (n : Nat), (∀ b ∈ l, b.Values.length ≤ 1500) → l.foldl (fun n b => n + b.Values.length) n ≤ n + 1500 * l.length := by
    intro l
    induction l with
    | nil => intro n _; simp
    | cons b l ih =>
      intro n h
      have := ih (n + b.Values.length) (fun x hx => h x (List.mem_cons_of_mem _ hx))
      have := h b List.mem_cons_self
      simp only [List.foldl_cons, List.length_cons]; omega
  have := this l 0 h
  unfold D.Ref.countBlks
  omega

set_option maxHeartbeats 4000000 in
theorem checks_any (s : ByteArray) (w : World) (ht : Tab w) (hs : s.size ≤ 16777000) : Calls Tryd.prog 3 #[.string s] w fun e w' => e = .returned (.bool true) ∧ Below w.heap.size w w' := by
  have HT := hide ht
  clear ht
  go_enter Tryd.func3, Tryd.ntmps3
  go_wp2_with fail
  refine (weighed_any w HT.out).mono ?_
  rintro e w1 ⟨rfl, hb1⟩
  go_wp2_with fail
  refine (D.read_any s w1 hs).mono ?_
  rintro e w2 ⟨hread, hb2⟩
  have hbw2 : Below w.heap.size w w2 := hb1.trans (hb2.mono hb1.size)
  have HC := hide (check_any s w2 (HT.out.below hbw2))
  rcases hread with ⟨er, hE, rfl⟩ | ⟨g, fb, h1, h2, h3, h4, rfl, hfb, hrep⟩
  · have HE := hide hE
    have hne : (er != 0) = true := by rcases hE.range with rfl | rfl <;> rfl
    clear hE
    go_wp2_with fail
    refine HC.out.mono ?_
    rintro e w3 ⟨⟨er2, hE2, rfl⟩ | ⟨f, k1, k2, k3, _⟩, hb3⟩
    case inr => exact (HE.out.not k1 k2 k3).elim
    obtain rfl := hE2.det HE.out
    have hbw3 : Below w.heap.size w w3 := hbw2.trans (hb3.mono hbw2.size)
    have HWT := hide (weight_any s w3 (HT.out.below hbw3))
    clear hE2
    go_wp2_with fail
    refine HWT.out.mono ?_
    rintro e w4 ⟨⟨er3, hE3, rfl⟩ | ⟨f, k1, k2, k3, _⟩, hb4⟩
    case inr => exact (HE.out.not k1 k2 k3).elim
    obtain rfl := hE3.det HE.out
    have hbw4 : Below w.heap.size w w4 := hbw3.trans (hb4.mono hbw3.size)
    clear hE3
    have HNUM := hide (fun w' => num_any er3 w')
    go_wp2_with (first | (go_at_call 11; refine (HNUM.out _).mono ?_; rintro e w4 ⟨rfl, rfl⟩))
    go_ret
    exact ⟨rfl, hbw4⟩
  · obtain ⟨hfn, hrt⟩ := Code.right_of h3 (by rw [← h1]; exact h2) h4
    rw [← h1] at hfn
    have HFN := hide hfn
    have HRT := hide hrt
    have H2 := hide h2
    have H3 := hide h3
    have HREP := hide hrep
    have HLN := hide (D.vals_len (g := g) (by rw [← h1]; exact h2)).1
    clear h1 h2 h3 h4 hrep hfn hrt
    go_wp2_with fail
    refine HC.out.mono ?_
    rintro e w3 ⟨⟨er2, hE2, _⟩ | ⟨f, _, _, _, rfl⟩, hb3⟩
    case inl => exact (hE2.not H2.out HFN.out HRT.out).elim
    have hbw3 : Below w.heap.size w w3 := hbw2.trans (hb3.mono hbw2.size)
    have HWT := hide (weight_any s w3 (HT.out.below hbw3))
    go_wp2_with fail
    refine HWT.out.mono ?_
    rintro e w4 ⟨⟨er3, hE3, _⟩ | ⟨f, _, k2, _, rfl⟩, hb4⟩
    case inl => exact (hE3.not H2.out HFN.out HRT.out).elim
    obtain rfl := Code.FnIs.det k2 HFN.out H2.out
    have hbw4 : Below w.heap.size w w4 := hbw3.trans (hb4.mono hbw3.size)
    have hb24 : Below w2.heap.size w2 w4 := hb3.trans (hb4.mono hb3.size)
    clear k2
    have HNUM := hide (fun w' => num_any 0 w')
    have hp : 0 < (D.Ref.toF f).Blocks.length := by rw [Code.toF_len]; exact HRT.out.some
    have hm : (D.Ref.toF f).Blocks.length ≤ 8 := by rw [Code.toF_len]; exact HRT.out.most
    have hcount : D.Ref.countBlks (D.Ref.toF f).Blocks ≤ 1000000 := by
      have := count_len (D.Ref.toF f).Blocks (fun b hb => by
        obtain ⟨b0, hb0, rfl⟩ := List.mem_map.1 hb
        rw [Code.toB_values, List.length_map]
        exact HLN.out b0 hb0)
      omega
    have HWF := hide (D.weightF_any (D.Ref.toF f) fb w4 (HREP.out.below hb24) hp (by omega) hcount)
    have hsum : D.Ref.sumBlks (D.Ref.toF f).Blocks = Code.sumB f.blocks := Code.sumBlks_toB f.args f.blocks H3.out.blocks
    rw [hsum] at HWF
    clear hsum hcount hp hm
    generalize Code.sumB f.blocks = sm at *
    go_wp2_with (first | (go_at_call 11; refine (HNUM.out _).mono ?_; rintro e w4 ⟨rfl, rfl⟩) | fail)
    refine HWF.out.mono ?_
    rintro e w5 ⟨rfl, rfl⟩
    go_wp2
    go_ret
    exact ⟨rfl, hbw4⟩
end Go.Proofs.YtedkjanogjglkaaDoor
