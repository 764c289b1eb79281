/-
  Walks: code.Function.reach; requireReached, where it holds.
-/
import Derived.Test.YtdffpkmabehfbaaDoorCOnce
namespace Go.Proofs.YtdffpkmabehfbaaDoor
open Go.RowKit

namespace Code
def falses (R : List Bool) : Nat := R.countP (· == false)

/-- The marks, with all that can be come to from a block without going through a marked one. -/
def reachF : Nat → List (List Nat) → List Bool → Nat → List Bool
  | 0, _, R, _ => R
  | f + 1, T, R, b => if R.getD b true = true then R else (T.getD b []).foldl (reachF f T) (R.set b true)

theorem reachF_yes {f : Nat} {T : List (List Nat)} {R : List Bool} {b : Nat} (h : R.getD b true = true) : reachF (f + 1) T R b = R := by simp only [reachF, if_pos h]

theorem reachF_no {f : Nat} {T : List (List Nat)} {R : List Bool} {b : Nat} (h : R.getD b true = false) : reachF (f + 1) T R b = (T.getD b []).foldl (reachF f T) (R.set b true) := by
  have h' : ¬ R.getD b true = true := by rw [h]; simp
  simp only [reachF, if_neg h']

theorem falses_set : ∀ (R : List Bool) (i : Nat) (h : i < R.length), R[i] = false → falses (R.set i true) + 1 = falses R
  | b :: R, 0, _, hf => by simp only [List.getElem_cons_zero] at hf; subst hf; simp [falses]
  | b :: R, i + 1, h, hf => by
    simp only [List.getElem_cons_succ] at hf
    have := falses_set R i (by simpa using h) hf
    simp only [falses, List.set_cons_succ, List.countP_cons] at this ⊢
    omega

theorem falses_set_le (R : List Bool) (i : Nat) : falses (R.set i true) ≤ falses R := by
  induction R generalizing i with
  | nil => simp
  | cons b R ih =>
    cases i with
    | zero => cases b <;> simp [falses]
    | succ i =>
      have := ih i
      simp only [falses, List.set_cons_succ, List.countP_cons] at this ⊢
      omega

theorem reachF_facts : ∀ (f : Nat) (T : List (List Nat)) (R : List Bool) (b : Nat), (reachF f T R b).length = R.length ∧ falses (reachF f T R b) ≤ falses R
  | 0, _, _, _ => ⟨rfl, Nat.le_refl _⟩
  | f + 1, T, R, b => by
    have fold : ∀ (l : List Nat) (S : List Bool), (l.foldl (reachF f T) S).length = S.length ∧ falses (l.foldl (reachF f T) S) ≤ falses S := by
      intro l
      induction l with
      | nil => intro S; exact ⟨rfl, Nat.le_refl _⟩
      | cons x l ih =>
        intro S
        rw [List.foldl_cons]
        have h1 := ih (reachF f T S x)
        have h2 := reachF_facts f T S x
        exact ⟨h1.1.trans h2.1, Nat.le_trans h1.2 h2.2⟩
    cases h : R.getD b true
    · rw [reachF_no h]
      have h1 := fold (T.getD b []) (R.set b true)
      exact ⟨h1.1.trans (by simp), Nat.le_trans h1.2 (falses_set_le R b)⟩
    · rw [reachF_yes h]; exact ⟨rfl, Nat.le_refl _⟩

/-- Where each block goes on. -/
def tgs (bks : List Blk) : List (List Nat) := bks.map fun b => tg b.last

theorem tgs_get (bks : List Blk) (j : Nat) (h : j < bks.length) : (tgs bks).getD j [] = tg bks[j].last := by
  rw [List.getD_eq_getElem?_getD]; simp [tgs, h]
end Code

/-- Marks in a row. -/
def boolRow (w : World) (g : Nat) (R : List Bool) : Prop := w.heap[g]? = some (.cells (setA R) 4)

theorem boolRow.cell {w : World} {g : Nat} {R : List Bool} (h : boolRow w g R) (i : Nat) (hi : i < R.length) : w.cell? ⟨g, i, none⟩ = some (.bool R[i]) :=
  blk_cell h i _ (by simp [setA, setL, hi])

theorem boolRow.set {w : World} {g : Nat} {R : List Bool} (h : boolRow w g R) (i : Nat) (b : Bool) : boolRow (w.setCell ⟨g, i, none⟩ (.bool b)) g (R.set i b) := by
  unfold boolRow at *
  rw [set_block h]
  simp [setA, setL, List.map_set]

theorem infoBool : (Tryd.prog.info? 4).map (fun i => (i.zero, i.size, i.bytes)) = some (some (.bool false), 1, 1) := by kernel_rfl

theorem boolRow_made {w : World} {base g n : Nat} (h : w.ownsRow base 4 1 (.slice (some ⟨g, 0, none⟩) n n) n (madeCells (Value.bool false).cells (n * 1)).toList) : boolRow w g (List.replicate n false) := by
  rcases h.2 with ⟨h0, _⟩ | ⟨g', cap, cur, hv, _, hg, _, _, hs, ht⟩
  · cases h0
  · simp only [Value.slice.injEq, Option.some.injEq, Addr.mk.injEq] at hv
    obtain ⟨⟨rfl, _⟩, _, rfl⟩ := hv
    unfold boolRow
    rw [hg]
    congr 2
    apply Array.toList_inj.1
    rw [← List.take_of_length_le (l := cur.toList) (i := n * 1) (by simp [hs]), ht]
    apply List.ext_getElem
    · simp [madeCells, setA, setL]
    · intro i h1 h2
      simp [madeCells, Value.cells, Nat.mod_one, setA, setL]

/-- While a block of another type turns, and new ones come. -/
theorem RepBlks.keptT {w w' : World} {base rb : Nat} {v : Value} {l : List Code.Blk} (h : RepBlks w base v l) {C : Array Value} {T : TypeId} {z : Nat × Nat} (hb : w.heap[rb]? = some (.cells C T z)) (hg : w.grownBy w' (some rb))
    (h1 : T ≠ 72) (h2 : T ≠ 88) (h3 : T ≠ 3) : RepBlks w' base v l :=
  h.mono (fun _ _ _ h => own_kept hb hg h h1) (fun _ _ _ h => own_kept hb hg h h2) (fun _ _ _ h => own_kept hb hg h h3)

set_option maxRecDepth 100000 in
set_option maxHeartbeats 4000000 in
theorem reach_any (args : Nat) (bks : List Code.Blk) (p : Option Addr) (c : Nat) (base g : Nat) (ht : ∀ b ∈ bks, ∀ t ∈ Code.tg b.last, t < bks.length) :
    ∀ (fuel : Nat) (R : List Bool) (b : Nat) (w : World), RepBlks w base (.slice p bks.length c) bks → R.length = bks.length → b < bks.length → Code.falses R < fuel → boolRow w g R →
    Calls Tryd.prog 45 #[.agg #[.int .i64 (args : Nat), .slice p bks.length c], .int .i64 (b : Nat), .slice (some ⟨g, 0, none⟩) bks.length bks.length] w fun e w' =>
      e = .returned (.tuple #[]) ∧ boolRow w' g (Code.reachF fuel (Code.tgs bks) R b) ∧ w.grownBy w' (some g) := by
  intro fuel
  induction fuel with
  | zero => intro R b w _ _ _ h; omega
  | succ fuel ih =>
    intro R b w hf hR hb hfu hrow
    have HIH := hide ih
    have HTG := hide ht
    have HF := hide hf
    clear ih
    have hblt : b < R.length := by omega
    have hcb := hrow.cell b hblt
    have hfz := blk_froz hrow b
    have hgd : R.getD b true = R[b] := by rw [List.getD_eq_getElem?_getD, List.getElem?_eq_getElem hblt]; rfl
    have hbl : (b : Int) < (bks.length : Int) := by omega
    have hglt := lt_of_block hrow
    cases hRb : R[b] with
    | true =>
      have HE := hide (Code.reachF_yes (f := fuel) (T := Code.tgs bks) (hgd.trans hRb))
      rw [hRb] at hcb
      clear hRb hgd hf
      go_enter Tryd.func45, Tryd.ntmps45
      go_wp2
      refine bodyPost_ret (results_none rfl _ _ _) rfl ?_
      refine ⟨rfl, ?_, grown_alloc _ _ _⟩
      rw [HE.out]
      exact stay_alloc hrow
    | false =>
      have HE := hide (Code.reachF_no (f := fuel) (T := Code.tgs bks) (hgd.trans hRb))
      have hfs := Code.falses_set R b hblt hRb
      rw [hRb] at hcb
      rw [Code.tgs_get bks b hb] at HE
      clear hRb hgd
      obtain ⟨p', c', hpe, hblk⟩ := hf.open
      simp only [Value.slice.injEq] at hpe
      obtain ⟨rfl, _, rfl⟩ := hpe
      obtain ⟨gb, vs, rfl, hg, c0, c1, hvs⟩ := hblk b hb
      clear hblk c0 hvs hf
      have hgne : gb ≠ g := by
        obtain ⟨cs, h1, _⟩ := HF.out
        rintro rfl
        exact own_ne h1 hrow (by decide) rfl
      have HTA := hide (targets_any bks[b].last)
      have htb : ∀ t ∈ Code.tg bks[b].last, t < bks.length := HTG.out bks[b] (List.getElem_mem hb)
      have htl := Code.tg_length bks[b].last
      generalize Code.tg bks[b].last = tl at *
      obtain ⟨T, zv, hzv⟩ := lastV_shape bks[b].last
      rw [hzv] at c1 HTA
      clear hzv
      go_enter Tryd.func45, Tryd.ntmps45
      go_wp2_with fail
      generalize hw3 : (w.setCell _ _).alloc _ = w3
      have hg3 : w.grownBy w3 (some g) := by rw [← hw3]; exact grown_trans (grown_set _ _ _ _) (grown_alloc _ _ _)
      have hrow3 : boolRow w3 g (R.set b true) := by rw [← hw3]; exact stay_alloc (hrow.set b true)
      have hx3 : w3.heap[w.heap.size]? = some (.cells #[.int .i64 (args : Nat), .slice (some ⟨gb, 0, none⟩) bks.length c] 43) := by
        rw [← hw3]
        have h := heap_alloc_new (w.setCell ⟨g, b, none⟩ (.bool true)) (.cells #[.int .i64 (args : Nat), .slice (some ⟨gb, 0, none⟩) bks.length c] 43)
        rw [size_set] at h
        exact h
      clear hw3 hcb hfz c1
      refine (HTA.out w3).mono ?_
      rintro e w4 ⟨v4, rfl, hown4, hb4⟩
      have hg4 : w.grownBy w4 (some g) := grown_trans hg3 (grown_below hb4)
      have hrow4 : boolRow w4 g (R.set b true) := (hb4.block _ (lt_of_block hrow3)).trans hrow3
      have hx4 := (hb4.block _ (lt_of_block hx3)).trans hx3
      have hz3 := hg3.size
      clear hg3 hrow3 hx3 hb4
      obtain ⟨p4, c4, rfl, _⟩ := nats_open hown4
      go_wp2_with fail
      go_loopw [23] (fun i wr => ∃ (k : Nat) (S : List Bool), k ≤ tl.length ∧ i = .int .i64 k ∧ S.length = bks.length ∧ Code.falses S < fuel ∧ boolRow wr g S ∧ w.grownBy wr (some g) ∧ wr.heap[w.heap.size]? = some (.cells #[.int .i64 (args : Nat), .slice (some ⟨gb, 0, none⟩) bks.length c] 43) ∧
          wr.ownsRow w3.heap.size 3 1 (.slice p4 tl.length c4) tl.length (nats tl) ∧ Hid ((tl.drop k).foldl (Code.reachF fuel (Code.tgs bks)) S = tl.foldl (Code.reachF fuel (Code.tgs bks)) (R.set b true))) (fun i _ => tl.length - (intOf i).toNat)
      case atStart => exact ⟨0, R.set b true, by omega, rfl, by simp [hR], by omega, hrow4, hg4, hx4, hown4, hide rfl⟩
      case round =>
        obtain ⟨k, S, hk, rfl, hS, hSf, hrw, hgr, hx, hown, hsp⟩ := hrel
        clear hrow4 hg4 hx4 hown4
        by_cases hkt : k < tl.length
        · obtain ⟨p5, c5, hpe, hval⟩ := nats_open hown
          simp only [Value.slice.injEq] at hpe
          obtain ⟨rfl, _, rfl⟩ := hpe
          obtain ⟨g4, rfl, ct⟩ := hval k hkt
          clear hval
          have htk := htb tl[k] (List.getElem_mem hkt)
          have hx0 := blk_cell hx 0 _ rfl
          have hx1 := blk_cell hx 1 _ rfl
          have HSN : Hid ((tl.drop (k + 1)).foldl (Code.reachF fuel (Code.tgs bks)) (Code.reachF fuel (Code.tgs bks) S tl[k]) = tl.foldl (Code.reachF fuel (Code.tgs bks)) (R.set b true)) := by
            have h := hsp.out
            rw [List.drop_eq_getElem_cons hkt] at h
            exact h
          have hfac := Code.reachF_facts fuel (Code.tgs bks) S tl[k]
          have HC := hide (HIH.out S tl[k] wr (HF.out.keptT hrow hgr (by decide) (by decide) (by decide)) hS htk hSf hrw)
          clear hsp
          go_wp2_with fail
          refine HC.out.mono ?_
          rintro e w5 ⟨rfl, hrw5, hg5⟩
          have hx5 := kept_block hx hg5 (by omega)
          have hown5 := own_kept hrw hg5 hown (by decide)
          go_wp2
          exact ⟨⟨k + 1, Code.reachF fuel (Code.tgs bks) S tl[k], by omega, by go_num, by rw [hfac.1]; exact hS, by omega, hrw5, grown_trans hgr hg5, hx5, hown5, HSN⟩, by simp [intOf]; omega⟩
        · have HSE : Hid (S = Code.reachF (fuel + 1) (Code.tgs bks) R b) := by
            have h := hsp.out
            rw [List.drop_of_length_le (by omega)] at h
            rw [HE.out]; exact h
          clear hsp
          go_wp2
          go_end0
          exact ⟨rfl, by rw [← HSE.out]; exact hrw, hgr⟩

set_option maxRecDepth 100000 in
set_option maxHeartbeats 4000000 in
theorem reached_ok (args : Nat) (bks : List Code.Blk) (p : Option Addr) (c : Nat) (base : Nat) (w : World) (hf : RepBlks w base (.slice p bks.length c) bks) (hn : bks.length ≤ 8) (hn0 : 0 < bks.length) (ht : ∀ b ∈ bks, ∀ t ∈ Code.tg b.last, t < bks.length)
    (hr : Code.reachF 9 (Code.tgs bks) (List.replicate bks.length false) 0 = List.replicate bks.length true) :
    Calls Tryd.prog 34 #[.agg #[.int .i64 (args : Nat), .slice p bks.length c]] w fun e w' => e = .returned (.tuple #[]) ∧ Below w.heap.size w w' := by
  obtain ⟨i0, hi, hi0, hi1, hi2⟩ := info_parts infoBool
  have HF := hide hf
  have HTG := hide ht
  have HR := hide hr
  clear hf ht hr
  go_enter Tryd.func34, Tryd.ntmps34
  go_wp2_with (first | (at_make; refine wpList_make_full _ rfl _ _ 111 rfl w.heap.size 4 i0 (.bool false) 1 Tryd.underlying111 hi hi0 hi1 .i64 .i64 _ _ bks.length rfl rfl rfl rfl (by rw [hi2]; omega) (by unfold maxLen; omega) (by simp) ?_; intro w2 hown2 hgrow2; have hnr2 := boolRow_made hown2; rw [alloc_size] at hnr2; have hbx : w2.heap[w.heap.size]? = some (.cells #[.int .i64 (args : Nat), .slice p bks.length c] 43) := (hgrow2.block _ (by simp) (by simp)).trans (heap_alloc_new w _); have hc0 := blk_cell hbx 0 _ rfl; have hc1 := blk_cell hbx 1 _ rfl) | fail)
  have hb2 : Below w.heap.size w w2 := by
    have h := below_al (Below.refl w.heap.size w) (.cells #[.int .i64 (args : Nat), .slice p bks.length c] 43)
    exact h.trans ⟨hgrow2.os, hgrow2.tape, hgrow2.output, hgrow2.size, fun k hk => hgrow2.block k (by simp; omega) (by simp)⟩
  have hfl : Code.falses (List.replicate bks.length false) < 9 := by
    have : Code.falses (List.replicate bks.length false) = bks.length := by rw [Code.falses, List.countP_replicate]; rfl
    omega
  refine (reach_any args bks p c base (w.heap.size + 1) HTG.out 9 (List.replicate bks.length false) 0 w2 (HF.out.below hb2) (by simp) hn0 hfl hnr2).mono ?_
  rw [HR.out]
  rintro e w3 ⟨rfl, hrow3, hg3⟩
  have hb3 : Below w.heap.size w w3 := hb2.trans ⟨hg3.os, hg3.tape, hg3.output, hg3.size, fun k hk => hg3.block k (by have := hb2.size; omega) (by simp; omega)⟩
  clear hown2 hgrow2 hnr2 hbx hc0 hc1 hb2 hfl hg3
  go_wp2_with fail
  go_loop [13] (fun i => ∃ k : Nat, k ≤ bks.length ∧ i = .int .i64 k) (fun i => bks.length - (intOf i).toNat)
  case atStart => exact ⟨0, by omega, rfl⟩
  case round =>
    obtain ⟨k, hk, rfl⟩ := hrel
    by_cases hkt : k < bks.length
    · have hc := hrow3.cell k (by simpa using hkt)
      simp only [List.getElem_replicate] at hc
      go_wp2
      exact ⟨⟨k + 1, by omega, by go_num⟩, by simp [intOf]; omega⟩
    · go_wp2
      go_end0
      exact ⟨rfl, hb3⟩
end Go.Proofs.YtdffpkmabehfbaaDoor
