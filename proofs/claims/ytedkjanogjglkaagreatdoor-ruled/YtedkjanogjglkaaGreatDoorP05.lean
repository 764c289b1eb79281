/-
  Parts of the proof: CReach, CPhis, CAhead, CAhead2.
-/
import Derived.Test.YtedkjanogjglkaaGreatDoorP04
import Derived.BigQuiet
import Derived.Laws.StructEq
namespace Go.Proofs.YtedkjanogjglkaaGreatDoor
open Go.RowKit
namespace Code
def falses (R : List Bool) : Nat := R.countP (· == false)
def reachF : Nat → List (List Nat) → List Bool → Nat → List Bool
 | 0, _, R, _ => R
 | f + 1, T, R, b => if R.getD b true = true then R else (T.getD b []).foldl (reachF f T) (R.set b true)
theorem reachF_yes {f : Nat} {T : List (List Nat)} {R : List Bool} {b : Nat} (h : R.getD b true = true) : reachF (f + 1) T R b = R := by simp only [reachF, if_pos h]
theorem reachF_no {f : Nat} {T : List (List Nat)} {R : List Bool} {b : Nat} (h : R.getD b true = false) : reachF (f + 1) T R b = (T.getD b []).foldl (reachF f T) (R.set b true) := by
 have h' : ¬ R.getD b true = true := by rw [h]; simp
 simp only [reachF, if_neg h']
theorem falses_set : ∀ (R : List Bool) (i : Nat) (h : i < R.length), R[i] = false → falses (R.set i true) + 1 = falses R
 | b :: R, 0, _, hf => by simp only [List.getElem_cons_zero] at hf; subst hf; simp [falses]
 | b :: R, i + 1, h, hf => by
  simp only [List.getElem_cons_succ] at hf
  have := falses_set R i (by simpa using h) hf
  simp only [falses, List.set_cons_succ, List.countP_cons] at this ⊢
  omega
theorem falses_set_le (R : List Bool) (i : Nat) : falses (R.set i true) ≤ falses R := by
 induction R generalizing i with
 | nil => simp
 | cons b R ih =>
  cases i with
  | zero => cases b <;> simp [falses]
  | succ i =>
   have := ih i
   simp only [falses, List.set_cons_succ, List.countP_cons] at this ⊢
   omega
theorem reachF_facts : ∀ (f : Nat) (T : List (List Nat)) (R : List Bool) (b : Nat), (reachF f T R b).length = R.length ∧ falses (reachF f T R b) ≤ falses R
 | 0, _, _, _ => ⟨rfl, Nat.le_refl _⟩
 | f + 1, T, R, b => by
  have fold : ∀ (l : List Nat) (S : List Bool), (l.foldl (reachF f T) S).length = S.length ∧ falses (l.foldl (reachF f T) S) ≤ falses S := by
   intro l
   induction l with
   | nil => intro S; exact ⟨rfl, Nat.le_refl _⟩
   | cons x l ih =>
    intro S
    rw [List.foldl_cons]
    have h1 := ih (reachF f T S x)
    have h2 := reachF_facts f T S x
    exact ⟨h1.1.trans h2.1, Nat.le_trans h1.2 h2.2⟩
  cases h : R.getD b true
  ·rw [reachF_no h]
   have h1 := fold (T.getD b []) (R.set b true)
   exact ⟨h1.1.trans (by simp), Nat.le_trans h1.2 (falses_set_le R b)⟩
  ·rw [reachF_yes h]; exact ⟨rfl, Nat.le_refl _⟩
def tgs (bks : List Blk) : List (List Nat) := bks.map fun b => tg b.last
theorem tgs_get (bks : List Blk) (j : Nat) (h : j < bks.length) : (tgs bks).getD j [] = tg bks[j].last := by
 rw [List.getD_eq_getElem?_getD]; simp [tgs, h]
end Code
def boolRow (w : World) (g : Nat) (R : List Bool) : Prop := w.heap[g]? = some (.cells (setA R) 4)
theorem boolRow.cell {w : World} {g : Nat} {R : List Bool} (h : boolRow w g R) (i : Nat) (hi : i < R.length) : w.cell? ⟨g, i, none⟩ = some (.bool R[i]) :=
 blk_cell h i _ (by simp [setA, setL, hi])
theorem boolRow.set {w : World} {g : Nat} {R : List Bool} (h : boolRow w g R) (i : Nat) (b : Bool) : boolRow (w.setCell ⟨g, i, none⟩ (.bool b)) g (R.set i b) := by
 unfold boolRow at *
 rw [set_block h]
 simp [setA, setL, List.map_set]
theorem infoBool : (Tryz.prog.info? 4).map (fun i => (i.zero, i.size, i.bytes)) = some (some (.bool false), 1, 1) := by kernel_rfl
theorem boolRow_made {w : World} {base g n : Nat} (h : w.ownsRow base 4 1 (.slice (some ⟨g, 0, none⟩) n n) n (madeCells (Value.bool false).cells (n * 1)).toList) : boolRow w g (List.replicate n false) := by
 rcases h.2 with ⟨h0, _⟩ | ⟨g', cap, cur, hv, _, hg, _, _, hs, ht⟩
 ·cases h0
 ·simp only [Value.slice.injEq, Option.some.injEq, Addr.mk.injEq] at hv
  obtain ⟨⟨rfl, _⟩, _, rfl⟩ := hv
  unfold boolRow
  rw [hg]
  congr 2
  apply Array.toList_inj.1
  rw [← List.take_of_length_le (l := cur.toList) (i := n * 1) (by simp [hs]), ht]
  apply List.ext_getElem
  ·simp [madeCells, setA, setL]
  ·intro i h1 h2
   simp [madeCells, Value.cells, Nat.mod_one, setA, setL]
theorem RepBlks.keptT {w w' : World} {base rb : Nat} {v : Value} {l : List Code.Blk} (h : RepBlks w base v l) {C : Array Value} {T : TypeId} {z : Nat × Nat} (hb : w.heap[rb]? = some (.cells C T z)) (hg : w.grownBy w' (some rb))
  (h1 : T ≠ 165) (h2 : T ≠ 169) (h3 : T ≠ 3) : RepBlks w' base v l :=
 h.mono (fun _ _ _ h => own_kept hb hg h h1) (fun _ _ _ h => own_kept hb hg h h2) (fun _ _ _ h => own_kept hb hg h h3)
set_option maxRecDepth 100000 in
set_option maxHeartbeats 4000000 in
theorem reach_any (args : Nat) (bks : List Code.Blk) (p : Option Addr) (c : Nat) (base g : Nat) (ht : ∀ b ∈ bks, ∀ t ∈ Code.tg b.last, t < bks.length) :
  ∀ (fuel : Nat) (R : List Bool) (b : Nat) (w : World), RepBlks w base (.slice p bks.length c) bks → R.length = bks.length → b < bks.length → Code.falses R < fuel → boolRow w g R →
  Calls Tryz.prog 163 #[.agg #[.int .i64 (args : Nat), .slice p bks.length c], .int .i64 (b : Nat), .slice (some ⟨g, 0, none⟩) bks.length bks.length] w fun e w' =>
   e = .returned (.tuple #[]) ∧ boolRow w' g (Code.reachF fuel (Code.tgs bks) R b) ∧ w.grownBy w' (some g) := by
 intro fuel
 induction fuel with
 | zero => intro R b w _ _ _ h; omega
 | succ fuel ih =>
  intro R b w hf hR hb hfu hrow
  have HIH := hide ih
  have HTG := hide ht
  have HF := hide hf
  clear ih
  have hblt : b < R.length := by omega
  have hcb := hrow.cell b hblt
  have hfz := blk_froz hrow b
  have hgd : R.getD b true = R[b] := by rw [List.getD_eq_getElem?_getD, List.getElem?_eq_getElem hblt]; rfl
  have hbl : (b : Int) < (bks.length : Int) := by omega
  have hglt := lt_of_block hrow
  cases hRb : R[b] with
  | true =>
   have HE := hide (Code.reachF_yes (f := fuel) (T := Code.tgs bks) (hgd.trans hRb))
   rw [hRb] at hcb
   clear hRb hgd hf
   go_enter Tryz.func163, Tryz.ntmps163
   go_wp2
   refine bodyPost_ret (results_none rfl _ _ _) rfl ?_
   refine ⟨rfl, ?_, grown_alloc _ _ _⟩
   rw [HE.out]
   exact stay_alloc hrow
  | false =>
   have HE := hide (Code.reachF_no (f := fuel) (T := Code.tgs bks) (hgd.trans hRb))
   have hfs := Code.falses_set R b hblt hRb
   rw [hRb] at hcb
   rw [Code.tgs_get bks b hb] at HE
   clear hRb hgd
   obtain ⟨p', c', hpe, hblk⟩ := hf.open
   simp only [Value.slice.injEq] at hpe
   obtain ⟨rfl, _, rfl⟩ := hpe
   obtain ⟨gb, vs, rfl, hg, c0, c1, hvs⟩ := hblk b hb
   clear hblk c0 hvs hf
   have hgne : gb ≠ g := by
    obtain ⟨cs, h1, _⟩ := HF.out
    rintro rfl
    exact own_ne h1 hrow (by decide) rfl
   have HTA := hide (targets_any bks[b].last)
   have htb : ∀ t ∈ Code.tg bks[b].last, t < bks.length := HTG.out bks[b] (List.getElem_mem hb)
   have htl := Code.tg_length bks[b].last
   generalize Code.tg bks[b].last = tl at *
   obtain ⟨T, zv, hzv⟩ := lastV_shape bks[b].last
   rw [hzv] at c1 HTA
   clear hzv
   go_enter Tryz.func163, Tryz.ntmps163
   go_wp2_with fail
   generalize hw3 : (w.setCell _ _).alloc _ = w3
   have hg3 : w.grownBy w3 (some g) := by rw [← hw3]; exact grown_trans (grown_set _ _ _ _) (grown_alloc _ _ _)
   have hrow3 : boolRow w3 g (R.set b true) := by rw [← hw3]; exact stay_alloc (hrow.set b true)
   have hx3 : w3.heap[w.heap.size]? = some (.cells #[.int .i64 (args : Nat), .slice (some ⟨gb, 0, none⟩) bks.length c] 78) := by
    rw [← hw3]
    have h := heap_alloc_new (w.setCell ⟨g, b, none⟩ (.bool true)) (.cells #[.int .i64 (args : Nat), .slice (some ⟨gb, 0, none⟩) bks.length c] 78)
    rw [size_set] at h
    exact h
   clear hw3 hcb hfz c1
   refine (HTA.out w3).mono ?_
   rintro e w4 ⟨v4, rfl, hown4, hb4⟩
   have hg4 : w.grownBy w4 (some g) := grown_trans hg3 (grown_below hb4)
   have hrow4 : boolRow w4 g (R.set b true) := (hb4.block _ (lt_of_block hrow3)).trans hrow3
   have hx4 := (hb4.block _ (lt_of_block hx3)).trans hx3
   have hz3 := hg3.size
   clear hg3 hrow3 hx3 hb4
   obtain ⟨p4, c4, rfl, _⟩ := nats_open hown4
   go_wp2_with fail
   go_loopw [23] (fun i wr => ∃ (k : Nat) (S : List Bool), k ≤ tl.length ∧ i = .int .i64 k ∧ S.length = bks.length ∧ Code.falses S < fuel ∧ boolRow wr g S ∧ w.grownBy wr (some g) ∧ wr.heap[w.heap.size]? = some (.cells #[.int .i64 (args : Nat), .slice (some ⟨gb, 0, none⟩) bks.length c] 78) ∧
     wr.ownsRow w3.heap.size 3 1 (.slice p4 tl.length c4) tl.length (nats tl) ∧ Hid ((tl.drop k).foldl (Code.reachF fuel (Code.tgs bks)) S = tl.foldl (Code.reachF fuel (Code.tgs bks)) (R.set b true))) (fun i _ => tl.length - (intOf i).toNat)
   case atStart => exact ⟨0, R.set b true, by omega, rfl, by simp [hR], by omega, hrow4, hg4, hx4, hown4, hide rfl⟩
   case round =>
    obtain ⟨k, S, hk, rfl, hS, hSf, hrw, hgr, hx, hown, hsp⟩ := hrel
    clear hrow4 hg4 hx4 hown4
    by_cases hkt : k < tl.length
    ·obtain ⟨p5, c5, hpe, hval⟩ := nats_open hown
     simp only [Value.slice.injEq] at hpe
     obtain ⟨rfl, _, rfl⟩ := hpe
     obtain ⟨g4, rfl, ct⟩ := hval k hkt
     clear hval
     have htk := htb tl[k] (List.getElem_mem hkt)
     have hx0 := blk_cell hx 0 _ rfl
     have hx1 := blk_cell hx 1 _ rfl
     have HSN : Hid ((tl.drop (k + 1)).foldl (Code.reachF fuel (Code.tgs bks)) (Code.reachF fuel (Code.tgs bks) S tl[k]) = tl.foldl (Code.reachF fuel (Code.tgs bks)) (R.set b true)) := by
      have h := hsp.out
      rw [List.drop_eq_getElem_cons hkt] at h
      exact h
     have hfac := Code.reachF_facts fuel (Code.tgs bks) S tl[k]
     have HC := hide (HIH.out S tl[k] wr (HF.out.keptT hrow hgr (by decide) (by decide) (by decide)) hS htk hSf hrw)
     clear hsp
     go_wp2_with fail
     refine HC.out.mono ?_
     rintro e w5 ⟨rfl, hrw5, hg5⟩
     have hx5 := kept_block hx hg5 (by omega)
     have hown5 := own_kept hrw hg5 hown (by decide)
     go_wp2
     exact ⟨⟨k + 1, Code.reachF fuel (Code.tgs bks) S tl[k], by omega, by go_num, by rw [hfac.1]; exact hS, by omega, hrw5, grown_trans hgr hg5, hx5, hown5, HSN⟩, by simp [intOf]; omega⟩
    ·have HSE : Hid (S = Code.reachF (fuel + 1) (Code.tgs bks) R b) := by
      have h := hsp.out
      rw [List.drop_of_length_le (by omega)] at h
      rw [HE.out]; exact h
     clear hsp
     go_wp2
     go_end0
     exact ⟨rfl, by rw [← HSE.out]; exact hrw, hgr⟩
set_option maxRecDepth 100000 in
set_option maxHeartbeats 4000000 in
theorem reached_ok (args : Nat) (bks : List Code.Blk) (p : Option Addr) (c : Nat) (base : Nat) (w : World) (hf : RepBlks w base (.slice p bks.length c) bks) (hn : bks.length ≤ 8) (hn0 : 0 < bks.length) (ht : ∀ b ∈ bks, ∀ t ∈ Code.tg b.last, t < bks.length)
  (hr : Code.reachF 9 (Code.tgs bks) (List.replicate bks.length false) 0 = List.replicate bks.length true) :
  Calls Tryz.prog 121 #[.agg #[.int .i64 (args : Nat), .slice p bks.length c]] w fun e w' => e = .returned (.tuple #[]) ∧ Below w.heap.size w w' := by
 obtain ⟨i0, hi, hi0, hi1, hi2⟩ := info_parts infoBool
 have HF := hide hf
 have HTG := hide ht
 have HR := hide hr
 clear hf ht hr
 go_enter Tryz.func121, Tryz.ntmps121
 go_wp2_with (first | (at_make; refine wpList_make_full _ rfl _ _ 181 rfl w.heap.size 4 i0 (.bool false) 1 Tryz.underlying181 hi hi0 hi1 .i64 .i64 _ _ bks.length rfl rfl rfl rfl (by rw [hi2]; omega) (by unfold maxLen; omega) (by simp) ?_; intro w2 hown2 hgrow2; have hnr2 := boolRow_made hown2; rw [alloc_size] at hnr2; have hbx : w2.heap[w.heap.size]? = some (.cells #[.int .i64 (args : Nat), .slice p bks.length c] 78) := (hgrow2.block _ (by simp) (by simp)).trans (heap_alloc_new w _); have hc0 := blk_cell hbx 0 _ rfl; have hc1 := blk_cell hbx 1 _ rfl) | fail)
 have hb2 : Below w.heap.size w w2 := by
  have h := below_al (Below.refl w.heap.size w) (.cells #[.int .i64 (args : Nat), .slice p bks.length c] 78)
  exact h.trans ⟨hgrow2.os, hgrow2.tape, hgrow2.output, hgrow2.size, fun k hk => hgrow2.block k (by simp; omega) (by simp)⟩
 have hfl : Code.falses (List.replicate bks.length false) < 9 := by
  have : Code.falses (List.replicate bks.length false) = bks.length := by rw [Code.falses, List.countP_replicate]; rfl
  omega
 refine (reach_any args bks p c base (w.heap.size + 1) HTG.out 9 (List.replicate bks.length false) 0 w2 (HF.out.below hb2) (by simp) hn0 hfl hnr2).mono ?_
 rw [HR.out]
 rintro e w3 ⟨rfl, hrow3, hg3⟩
 have hb3 : Below w.heap.size w w3 := hb2.trans ⟨hg3.os, hg3.tape, hg3.output, hg3.size, fun k hk => hg3.block k (by have := hb2.size; omega) (by simp; omega)⟩
 clear hown2 hgrow2 hnr2 hbx hc0 hc1 hb2 hfl hg3
 go_wp2_with fail
 go_loop [13] (fun i => ∃ k : Nat, k ≤ bks.length ∧ i = .int .i64 k) (fun i => bks.length - (intOf i).toNat)
 case atStart => exact ⟨0, by omega, rfl⟩
 case round =>
  obtain ⟨k, hk, rfl⟩ := hrel
  by_cases hkt : k < bks.length
  ·have hc := hrow3.cell k (by simpa using hkt)
   simp only [List.getElem_replicate] at hc
   go_wp2
   exact ⟨⟨k + 1, by omega, by go_num⟩, by simp [intOf]; omega⟩
  ·go_wp2
   go_end0
   exact ⟨rfl, hb3⟩
namespace Code
def PhisOk (bks : List Blk) : Prop := ∀ j (h : j < bks.length), ∀ v ∈ bks[j].values, ∀ of, v.thing = .phi of → j ≠ 0 ∧ of.length = (edges bks).counts.getD j 0
theorem edges_length (bks : List Blk) : (edges bks).counts.length = bks.length := by
 have : ∀ (l : List (Nat × Nat × Nat)) (E : Edges), (l.foldl Edges.add E).counts.length = E.counts.length := by
  intro l
  induction l with
  | nil => intro E; rfl
  | cons e l ih => intro E; rw [List.foldl_cons, ih, add_length]
 unfold edges
 rw [this]; simp
end Code
theorem belowN {B : Nat} {a w : World} (h : Below B a w) (n : Nat) : Below B a (w.drewN n) := ⟨h.os, h.tape, h.output, h.size, h.block⟩
set_option maxRecDepth 100000 in
set_option maxHeartbeats 4000000 in
theorem phis_ok (args : Nat) (bks : List Code.Blk) (p : Option Addr) (c : Nat) (base : Nat) (w : World) (hf : RepBlks w base (.slice p bks.length c) bks) (hn : bks.length ≤ 8) (hl : ∀ b ∈ bks, b.values.length ≤ 100000) (ht : ∀ b ∈ bks, ∀ t ∈ Code.tg b.last, t < bks.length) (hp : Code.PhisOk bks) :
  Calls Tryz.prog 122 #[.agg #[.int .i64 (args : Nat), .slice p bks.length c]] w fun e w' => e = .returned (.tuple #[]) ∧ Below w.heap.size w w' := by
 have HF := hide hf
 have HTG := hide ht
 have HL := hide hl
 have HP := hide hp
 clear ht hl hp
 go_enter Tryz.func122, Tryz.ntmps122
 go_wp2_with fail
 generalize hw0 : w.alloc _ = w0
 have hx0 : w0.heap[w.heap.size]? = some (.cells #[.int .i64 (args : Nat), .slice p bks.length c] 78) := by rw [← hw0]; exact heap_alloc_new w _
 have hb0 : Below w.heap.size w w0 := by rw [← hw0]; exact below_al (Below.refl _ _) _
 clear hw0
 refine (edges_any args bks p c base w0 (HF.out.below hb0) hn HTG.out).mono ?_
 rintro e w1 ⟨mb, g, n, rfl, hmb, hgm, hE, hnr, hb1⟩
 have hx1 := (hb1.block _ (lt_of_block hx0)).trans hx0
 have hbw1 : Below w.heap.size w w1 := hb0.trans (hb1.mono hb0.size)
 have hz0 := hb0.size
 have hcn := Code.edges_length bks
 have HP' : Hid (∀ j (h : j < bks.length), ∀ v ∈ bks[j].values, ∀ of, v.thing = .phi of → j ≠ 0 ∧ of.length = (Code.edges bks).counts.getD j 0) := HP
 generalize (Code.edges bks).counts = C at *
 have hcx := blk_cell hx1 1 _ rfl
 clear hE hx0 hb0 hb1 HP
 obtain ⟨p', c', hpe, hblk⟩ := hf.open
 simp only [Value.slice.injEq] at hpe
 obtain ⟨rfl, _, rfl⟩ := hpe
 have HBLK := hide hblk
 clear hblk hf
 go_wp2_with fail
 clear hcx
 go_loopw [18] (fun i wr => ∃ j : Nat, j ≤ bks.length ∧ i = .int .i64 j ∧ natRow wr g C ∧ Below w.heap.size w wr) (fun i _ => bks.length - (intOf i).toNat)
 case atStart => exact ⟨0, by omega, rfl, hnr, hbw1⟩
 case round =>
  obtain ⟨j, hj, rfl, hrw, hbw⟩ := hrel
  clear hnr hbw1 hx1
  have hz := hbw.size
  have hgl := lt_of_block hrw
  by_cases hlt : j < bks.length
  ·obtain ⟨gb, vs, rfl, hg, c0, c1, hvs⟩ := HBLK.out j hlt
   have hlen := HL.out bks[j] (List.getElem_mem hlt)
   have HPJ := hide (HP'.out j hlt)
   have hgd : C.getD j 0 = C[j]'(by omega) := by rw [List.getD_eq_getElem?_getD, List.getElem?_eq_getElem (by omega)]; rfl
   rw [hgd] at HPJ
   obtain ⟨pv, cv, rfl, hval⟩ := hvs.open
   have c0' : wr.cell? ⟨gb, j * 2, none⟩ = some (.slice pv bks[j].values.length cv) := by rw [(bcell hbw).1 gb _ hg]; exact c0
   obtain ⟨T, zv, hzv⟩ := lastV_shape bks[j].last
   have c1' : wr.cell? ⟨gb, j * 2 + 1, none⟩ = some (.iface T zv) := by rw [(bcell hbw).1 gb _ hg, ← hzv]; exact c1
   generalize bks[j].values = vals at *
   have HV := hide hval
   clear hval c0 c1 hvs hzv hgd
   go_wp2_with fail
   generalize hw3 : wr.alloc _ = w3
   have hb3 : Below w.heap.size w w3 := by rw [← hw3]; exact below_al hbw _
   have hrow3 : natRow w3 g C := by rw [← hw3]; exact stay_alloc hrw
   clear hw3 c0' c1' hrw
   rename World => wo
   go_loopw [26] (fun i ws => ∃ k : Nat, k ≤ vals.length ∧ i = .int .i64 k ∧ natRow ws g C ∧ Below w.heap.size w ws) (fun i _ => vals.length - (intOf i).toNat)
   case atStart => exact ⟨0, by omega, rfl, hrow3, hb3⟩
   case round =>
    obtain ⟨k, hk, rfl, hrw, hbs⟩ := hrel
    clear hrow3 hb3
    have hzs := hbs.size
    by_cases hkt : k < vals.length
    ·obtain ⟨g2, th, rfl, hg2, d0, d1, hth⟩ := HV.out k hkt
     have HPK := hide (HPJ.out vals[k] (List.getElem_mem hkt))
     have d0' : wr.cell? ⟨g2, k * 2, none⟩ = some (.int .i64 (vals[k].num : Nat)) := by rw [(bcell hbs).1 g2 _ hg2]; exact d0
     have d1' : wr.cell? ⟨g2, k * 2 + 1, none⟩ = some th := by rw [(bcell hbs).1 g2 _ hg2]; exact d1
     have hth' : ThingV w base vals[k].thing th := hth
     generalize vals[k].thing = y at *
     generalize vals[k].num = x at *
     clear d0 d1
     have hcj := hrw.cell j (by omega)
     have hjl : (j : Int) < (bks.length : Int) := by omega
     have hl1 := lt_of_block hrw
     cases y with
     | phi of =>
      obtain ⟨r, rfl, hro⟩ := hth'
      obtain ⟨pr, cr, rfl⟩ := own_slice hro
      obtain ⟨hj0, hof⟩ := HPK.out of rfl
      have hj0' : ((j : Int) == 0) = false := beq_eq_false_iff_ne.2 (by omega)
      have hta := isPhi_phi
      have hof' : (((of.length : Nat) : Int) != ((C[j]'(by omega) : Nat) : Int)) = false := by rw [hof]; simp
      go_wp2_with fail
      go_quiet (fail)
      go_wp2
      exact ⟨⟨k + 1, by omega, by go_num, stay_alloc (stay_alloc hrw), belowN (below_al (below_al hbs _) _) _⟩, by simp [intOf]; omega⟩
     | arg m =>
      have hth2 : th = _ := hth'
      subst hth2
      have hta := isPhi_arg
      go_wp2_with fail
      go_quiet (fail)
      go_wp2
      exact ⟨⟨k + 1, by omega, by go_num, stay_alloc (stay_alloc hrw), belowN (below_al (below_al hbs _) _) _⟩, by simp [intOf]; omega⟩
     | const m =>
      have hth2 : th = _ := hth'
      subst hth2
      have hta := isPhi_const
      go_wp2_with fail
      go_quiet (fail)
      go_wp2
      exact ⟨⟨k + 1, by omega, by go_num, stay_alloc (stay_alloc hrw), belowN (below_al (below_al hbs _) _) _⟩, by simp [intOf]; omega⟩
     | apply q of =>
      obtain ⟨r, rfl, hro⟩ := hth'
      obtain ⟨pr, cr, rfl⟩ := own_slice hro
      have hta := isPhi_apply
      go_wp2_with fail
      go_quiet (fail)
      go_wp2
      exact ⟨⟨k + 1, by omega, by go_num, stay_alloc (stay_alloc hrw), belowN (below_al (below_al hbs _) _) _⟩, by simp [intOf]; omega⟩
    ·go_wp2
     exact ⟨⟨j + 1, by omega, by go_num, hrw, hbs⟩, by simp [intOf]; omega⟩
  ·go_wp2
   go_end0
   exact ⟨rfl, hbw⟩
theorem all_beq : ∀ (X Y : List Bool), X.length = Y.length → ((List.range X.length).all fun i => X.getD i false == Y.getD i false) = (X == Y)
 | [], [], _ => rfl
 | x :: X, y :: Y, h => by
  have ih := all_beq X Y (by simpa using h)
  rw [List.length_cons, List.range_succ_eq_map, List.all_cons, List.all_map]
  simp only [List.getD_cons_zero, Function.comp_def, List.getD_cons_succ, ih, List.cons_beq_cons]
 | [], _ :: _, h => by simp at h
 | _ :: _, [], h => by simp at h
theorem sizeBool (w : World) : (sizeOf 4).run Tryz.prog w = .ok 1 w := by kernel_rfl
theorem equal_sets (X Y : List Bool) (hX : X.length = 60) (hY : Y.length = 60) (d : Nat) (w : World) : (Op.equalIn (d + 2) 281 (.agg (setA X)) (.agg (setA Y))).run Tryz.prog w = .ok (X == Y) w := by
 rw [← all_beq X Y (hX.trans hY.symm), hX, List.range_eq_range', Op.equalIn]
 simp only [Sem.run_bind, run_underlying Tryz.underlying281, Result.andThen_ok, sizeBool, Std.Legacy.Range.forIn_eq_forIn_range', Std.Legacy.Range.size, Nat.sub_zero, Nat.add_sub_cancel, Nat.div_one]
 have hl : ∀ i ∈ List.range' 0 60 1, i < 60 := fun i hi => by simpa using (List.mem_range'_1.1 hi).2
 generalize List.range' 0 60 1 = l at hl ⊢
 induction l with
 | nil => simp
 | cons i l ih =>
  have hi : i < 60 := hl i (by simp)
  have pa : ∀ Z : List Bool, Z.length = 60 → (part 4 (setA Z) (i * 1)).run Tryz.prog w = .ok (.bool (Z.getD i false)) w := fun Z hZ => by
   simp [part, isAgg, run_underlying Tryz.underlying4, setA, setL, List.getElem?_eq_getElem (show i < Z.length by omega)]
  have pe : ∀ a b : Bool, (Op.equalIn (d + 1) 4 (.bool a) (.bool b)).run Tryz.prog w = .ok (a == b) w := fun a b => by
   rw [Op.equalIn]
   simp [run_underlying Tryz.underlying4]
  simp only [List.forIn_cons, Sem.run_bind, pa X hX, pa Y hY, pe, Result.andThen_ok, List.all_cons]
  cases hb : (X.getD i false == Y.getD i false)
  ·simp
  ·simp only [Bool.not_true, Bool.false_eq_true, if_false, Sem.run_pure, Result.andThen_ok, Bool.true_and]
   exact ih fun j hj => hl j (by simp [hj])
theorem neq_sets (X Y : List Bool) (hX : X.length = 60) (hY : Y.length = 60) (w : World) : (binOp .neq 281 (.agg (setA X)) (.agg (setA Y))).run Tryz.prog w = .ok (.bool (!(X == Y))) w := by
 have h := equal_sets X Y hX hY 9998 w
 show ((do pure (Value.bool (!(← Op.equal 281 (.agg (setA X)) (.agg (setA Y))))) : Sem Value)).run Tryz.prog w = _
 rw [Sem.run_bind, Op.equal, show Op.maxDepth = 9998 + 2 from rfl, h]
 rfl
theorem setA_get (R : List Bool) (x : Nat) : (setA R)[x]? = (R[x]?).map Value.bool := by simp only [setA, setL, List.getElem?_toArray, List.getElem?_map]
theorem setA_size (R : List Bool) : (setA R).size = R.length := by simp only [setA, List.size_toArray, setL_length]
theorem noNumber_get (r : Nat) (hr : r < 60) : noNumber[r]? = some false := by simp only [noNumber, List.getElem?_replicate, if_pos hr]
def All60 (A : List (List Bool)) : Prop := ∀ R ∈ A, R.length = 60
theorem All60.set {A : List (List Bool)} (h : All60 A) (i : Nat) {R : List Bool} (hR : R.length = 60) : All60 (A.set i R) := by
 intro x hx
 rcases List.mem_or_eq_of_mem_set hx with hx | rfl
 ·exact h x hx
 ·exact hR
theorem flat_get : ∀ (A : List (List Bool)), All60 A → ∀ q r, r < 60 → A.flatten[q * 60 + r]? = (A[q]?).bind (·[r]?)
 | [], _, q, r, _ => by simp
 | R :: A, h, q, r, hr => by
  have hR : R.length = 60 := h R (List.mem_cons_self ..)
  have hA : All60 A := fun x hx => h x (List.mem_cons_of_mem _ hx)
  rw [List.flatten_cons]
  cases q with
  | zero =>
   rw [List.getElem?_append_left (by omega)]
   simp
  | succ q =>
   rw [List.getElem?_append_right (by omega), hR, show (q + 1) * 60 + r - 60 = q * 60 + r by omega, flat_get A hA q r hr]
   simp
theorem flat_length : ∀ (A : List (List Bool)), All60 A → A.flatten.length = A.length * 60
 | [], _ => rfl
 | R :: A, h => by
  have hR : R.length = 60 := h R (List.mem_cons_self ..)
  rw [List.flatten_cons, List.length_append, flat_length A (fun x hx => h x (List.mem_cons_of_mem _ hx)), hR]
  simp; omega
def setsRow (w : World) (g : Nat) (A : List (List Bool)) : Prop := w.heap[g]? = some (.cells (setA A.flatten) 281)
theorem setsRow.range {w : World} {g : Nat} {A : List (List Bool)} (h : setsRow w g A) (h6 : All60 A) (i : Nat) (hi : i < A.length) : w.rangeAt g (i * 60) (setL A[i]) := by
 intro j v hv
 have hj : j < 60 := by
  have := (List.getElem?_eq_some_iff.1 hv).1
  rw [setL_length, h6 A[i] (List.getElem_mem hi)] at this
  exact this
 refine blk_cell h _ v ?_
 simp only [setA, setL, List.getElem?_toArray, List.getElem?_map] at hv ⊢
 rw [flat_get A h6 i j hj, List.getElem?_eq_getElem hi]
 exact hv
theorem setsRow.there {w : World} {g : Nat} {A : List (List Bool)} (h : setsRow w g A) (h6 : All60 A) (i : Nat) (hi : i < A.length) : w.there g (i * 60) 60 := by
 intro j hj
 refine ⟨?_, blk_froz h _⟩
 have hl : j < (A[i]).length := by rw [h6 A[i] (List.getElem_mem hi)]; exact hj
 rw [h.range h6 i hi j (.bool (A[i])[j]) (by simp [setL, hl])]; rfl
theorem setsRow.put {w : World} {g : Nat} {A : List (List Bool)} (h : setsRow w g A) (h6 : All60 A) (i : Nat) (hi : i < A.length) (R : List Bool) (hR : R.length = 60) : setsRow (w.setCells g (i * 60) (setL R)) g (A.set i R) := by
 have hfl := flat_length A h6
 have h6' := h6.set i hR
 have hfl' := flat_length (A.set i R) h6'
 have hmul : (i + 1) * 60 ≤ A.length * 60 := Nat.mul_le_mul_right 60 hi
 obtain ⟨C', h1, h2, h3, h4, h5⟩ := setCells_block g (setL R) (i * 60) w _ h (by rw [setL_length, hR, setA_size, hfl]; omega)
 unfold setsRow
 rw [h1]
 congr 2
 apply Array.ext_getElem?
 intro x
 have hL : (setL R).length = 60 := by rw [setL_length, hR]
 have hxx : x / 60 * 60 + x % 60 = x := by omega
 have hx6 : x % 60 < 60 := Nat.mod_lt _ (by omega)
 have hnew : (setA (A.set i R).flatten)[x]? = (((A.set i R)[x / 60]?).bind (·[x % 60]?)).map Value.bool := by
  rw [← flat_get (A.set i R) h6' (x / 60) (x % 60) hx6, hxx, setA_get]
 have hold : (setA A.flatten)[x]? = ((A[x / 60]?).bind (·[x % 60]?)).map Value.bool := by
  rw [← flat_get A h6 (x / 60) (x % 60) hx6, hxx, setA_get]
 rw [hnew]
 by_cases hq : x / 60 = i
 ·have hx1 : x = i * 60 + x % 60 := by omega
  rw [hq, List.getElem?_set_self hi]
  have := h4 (x % 60) (by omega)
  rw [← hx1] at this
  rw [this]
  simp [setL]
 ·rw [List.getElem?_set_ne (fun e => hq e.symm), ← hold]
  by_cases hlt : x < i * 60
  ·exact h3 x hlt
  ·exact h5 x (by omega)
theorem infoSet : (Tryz.prog.info? 281).map (fun i => (i.zero, i.size, i.bytes)) = some (some (.agg (setA noNumber)), 60, 60) := by kernel_rfl
theorem setsRow_made {w : World} {base g n : Nat} (h : w.ownsRow base 281 60 (.slice (some ⟨g, 0, none⟩) n n) n (madeCells (Value.agg (setA noNumber)).cells (n * 60)).toList) : setsRow w g (List.replicate n noNumber) := by
 rcases h.2 with ⟨h0, _⟩ | ⟨g', cap, cur, hv, _, hg, _, _, hs, ht⟩
 ·cases h0
 ·simp only [Value.slice.injEq, Option.some.injEq, Addr.mk.injEq] at hv
  obtain ⟨⟨rfl, _⟩, _, rfl⟩ := hv
  unfold setsRow
  rw [hg]
  congr 2
  apply Array.toList_inj.1
  rw [← List.take_of_length_le (l := cur.toList) (i := n * 60) (by simp [hs]), ht]
  have h6 : All60 (List.replicate n noNumber) := fun R hR => by rw [List.eq_of_mem_replicate hR]; rfl
  apply List.ext_getElem?
  intro x
  have hx6 : x % 60 < 60 := Nat.mod_lt _ (by omega)
  have hxx : x / 60 * 60 + x % 60 = x := by omega
  have hold : (setA (List.replicate n noNumber).flatten).toList[x]? = (((List.replicate n noNumber)[x / 60]?).bind (·[x % 60]?)).map Value.bool := by
   rw [← flat_get _ h6 (x / 60) (x % 60) hx6, hxx, ← setA_get, Array.getElem?_toList]
  rw [hold]
  by_cases hx : x < n * 60
  ·have hd : x / 60 < n := Nat.div_lt_of_lt_mul (by omega)
   have hz : ∀ r, r < 60 → (setA noNumber)[r]! = .bool false := fun r hr => by
    have : (setA noNumber)[r]? = some (.bool false) := by rw [setA_get, noNumber_get r hr]; rfl
    rw [Array.getElem!_eq_getD, Array.getD_eq_getD_getElem?, this]; rfl
   have hs60 : (setA noNumber).size = 60 := rfl
   simp only [madeCells, Value.cells, Array.toList_map, List.getElem?_map, Array.toList_range, List.getElem?_range hx, Option.map_some, hs60]
   rw [hz _ hx6, List.getElem?_replicate, if_pos hd, Option.bind_some, noNumber_get _ hx6]; rfl
  ·have hd : ¬ x / 60 < n := fun h => hx (by omega)
   rw [List.getElem?_eq_none (by simp [madeCells]; omega), List.getElem?_eq_none (by simp; omega)]
   rfl
namespace Code
abbrev Sets := List (List Bool)
def stepT (e : List Bool) (st : Sets × Bool) (t : Nat) : Sets × Bool :=
 (st.1.set t (both (st.1.getD t []) e), st.2 || !(both (st.1.getD t []) e == st.1.getD t []))
def stepB (st : Sets × Bool) (j : Nat) (b : Blk) : Sets × Bool := (tg b.last).foldl (stepT (addAll (st.1.getD j []) b.values)) st
def passGo : List Blk → Nat → Sets × Bool → Sets × Bool
 | [], _, st => st
 | b :: r, j, st => passGo r (j + 1) (stepB st j b)
def pass (bks : List Blk) (A : Sets) : Sets × Bool := passGo bks 0 (A, false)
inductive Iter (bks : List Blk) : Sets → Sets → Prop
 | done {A : Sets} : (pass bks A).2 = false → Iter bks A (pass bks A).1
 | more {A B : Sets} : (pass bks A).2 = true → Iter bks (pass bks A).1 B → Iter bks A B
theorem Iter.det {bks : List Blk} {A B B' : Sets} (h : Iter bks A B) (h' : Iter bks A B') : B = B' := by
 induction h generalizing B' with
 | done h1 => cases h' with
  | done _ => rfl
  | more g1 _ => rw [h1] at g1; cases g1
 | more h1 _ ih => cases h' with
  | done g1 => rw [h1] at g1; cases g1
  | more _ g2 => exact ih g2
def everyNumber : List Bool := List.replicate 60 true
def startTo (n k : Nat) : Sets := (List.range n).map fun i => if 1 ≤ i ∧ i < k then everyNumber else noNumber
theorem startTo_length (n k : Nat) : (startTo n k).length = n := by simp [startTo]
theorem startTo_one (n : Nat) : startTo n 1 = List.replicate n noNumber := by
 apply List.ext_getElem
 ·simp [startTo]
 ·intro i h1 h2
  have h : ¬ (1 ≤ i ∧ i < 1) := by omega
  simp only [startTo, List.getElem_map, List.getElem_range, if_neg h, List.getElem_replicate]
theorem startTo_set (n k : Nat) (h : 1 ≤ k) : (startTo n k).set k everyNumber = startTo n (k + 1) := by
 apply List.ext_getElem
 ·simp [startTo]
 ·intro i h1 h2
  simp only [List.length_set, startTo, List.length_map, List.length_range] at h1
  rw [List.getElem_set]
  simp only [startTo, List.getElem_map, List.getElem_range]
  by_cases hi : k = i
  ·subst hi
   have h3 : 1 ≤ k ∧ k < k + 1 := by omega
   simp only [if_true, if_pos h3]
  ·by_cases h4 : 1 ≤ i ∧ i < k
   ·have h5 : 1 ≤ i ∧ i < k + 1 := by omega
    simp only [if_neg hi, if_pos h4, if_pos h5]
   ·have h5 : ¬ (1 ≤ i ∧ i < k + 1) := by omega
    simp only [if_neg hi, if_neg h4, if_neg h5]
def trues (A : Sets) : Nat := A.flatten.countP id
theorem trues_both : ∀ (R S : List Bool), R.length = S.length → (both R S).countP id ≤ R.countP id ∧ (both R S ≠ R → (both R S).countP id < R.countP id)
 | [], [], _ => ⟨Nat.le_refl _, fun h => absurd rfl h⟩
 | r :: R, s :: S, h => by
  have ih := trues_both R S (by simpa using h)
  unfold both at *
  simp only [List.zipWith_cons_cons, List.countP_cons]
  cases r <;> cases s
  ·simp only [Bool.and_false, id]
   refine ⟨by simpa using ih.1, fun hn => ?_⟩
   have := ih.2 (fun e => hn (by rw [e]))
   simpa using this
  ·simp only [Bool.and_true, id]
   refine ⟨by simpa using ih.1, fun hn => ?_⟩
   have := ih.2 (fun e => hn (by rw [e]))
   simpa using this
  ·simp only [Bool.and_false, id]
   have := ih.1
   refine ⟨by simp; omega, fun _ => by simp; omega⟩
  ·simp only [Bool.and_true, id]
   refine ⟨by simpa using ih.1, fun hn => ?_⟩
   have := ih.2 (fun e => hn (by rw [e]))
   simpa using this
 | [], _ :: _, h => by simp at h
 | _ :: _, [], h => by simp at h
theorem trues_set : ∀ (A : Sets) (t : Nat) (h : t < A.length) (R : List Bool), trues (A.set t R) + A[t].countP id = trues A + R.countP id
 | X :: A, 0, _, R => by simp only [trues, List.set_cons_zero, List.flatten_cons, List.countP_append, List.getElem_cons_zero]; omega
 | X :: A, t + 1, h, R => by
  have ih := trues_set A t (by simpa using h) R
  simp only [trues, List.set_cons_succ, List.flatten_cons, List.countP_append, List.getElem_cons_succ] at ih ⊢
  omega
structure Along (n : Nat) (A : Sets) (st : Sets × Bool) : Prop where
 len : st.1.length = n
 all : All60 st.1
 le : trues st.1 ≤ trues A
 lt : st.2 = true → trues st.1 < trues A
theorem Along.step {n : Nat} {A : Sets} {st : Sets × Bool} (h : Along n A st) {e : List Bool} (he : e.length = 60) {t : Nat} (ht : t < n) : Along n A (stepT e st t) := by
 have htl : t < st.1.length := by rw [h.len]; exact ht
 have hg : st.1.getD t [] = st.1[t] := by rw [List.getD_eq_getElem?_getD, List.getElem?_eq_getElem htl]; rfl
 have h60 := h.all st.1[t] (List.getElem_mem htl)
 have hb := trues_both st.1[t] e (by omega)
 have hs := trues_set st.1 t htl (both st.1[t] e)
 have hle := h.le
 refine ⟨by simp [stepT, h.len], h.all.set t (by rw [hg]; exact both_length h60 he), ?_, ?_⟩
 ·simp only [stepT, hg]; omega
 ·simp only [stepT, hg]
  intro hc
  rcases Bool.or_eq_true_iff.1 hc with h1 | h1
  ·have := h.lt h1; omega
  ·have hne : both st.1[t] e ≠ st.1[t] := by
    intro e'
    rw [e'] at h1
    simp at h1
   have := hb.2 hne
   omega
end Code
def wtrues (w : World) (g : Nat) : Nat := match w.heap[g]? with
 | some (.cells C _ _) => C.toList.countP fun v => match v with | .bool b => b | _ => false
 | _ => 0
theorem wtrues_row {w : World} {g : Nat} {A : Code.Sets} (h : setsRow w g A) : wtrues w g = Code.trues A := by
 unfold setsRow at h
 simp only [wtrues, h, setA, setL, Code.trues, List.countP_map]
 rfl
end Go.Proofs.YtedkjanogjglkaaGreatDoor
