/-
  Walk: code.reader.apply.
-/
import Derived.Test.YtdffpkmabehfbaaDoorCOps
namespace Go.Proofs.YtdffpkmabehfbaaDoor
open Go.RowKit

theorem undrew {w w' : World} {r : Option Nat} (h : w.drew.grownBy w' r) : w.grownBy w' r := ⟨h.os, h.tape, h.output, h.size, h.block⟩

theorem grown_drew {w w' : World} {r : Option Nat} (h : w.grownBy w' r) : w.grownBy w'.drew r := ⟨h.os, h.tape, h.output, h.size, h.block⟩

theorem kept_block {w w' : World} {rb b : Nat} {o : Obj} (h : w.heap[b]? = some o) (hg : w.grownBy w' (some rb)) (hne : b ≠ rb) : w'.heap[b]? = some o := by
  rw [hg.block b (lt_of_block h) (fun e => hne (Option.some.inj e))]; exact h

/-- A row of numbers in a block of its own. -/
def natRow (w : World) (g : Nat) (L : List Nat) : Prop := w.heap[g]? = some (.cells (nats L).toArray 3)

theorem natRow.cell {w : World} {g : Nat} {L : List Nat} (h : natRow w g L) (i : Nat) (hi : i < L.length) : w.cell? ⟨g, i, none⟩ = some (.int .i64 (L[i] : Nat)) :=
  blk_cell h i _ (by simp [nats, hi])

theorem natRow.set {w : World} {g : Nat} {L : List Nat} (h : natRow w g L) (i n : Nat) : natRow (w.setCell ⟨g, i, none⟩ (.int .i64 (n : Nat))) g (L.set i n) := by
  unfold natRow at *
  rw [set_block h]
  simp [nats, List.map_set]

theorem natRow.own {w : World} {g base : Nat} {L : List Nat} (h : natRow w g L) (hb : base ≤ g) (hm : L.length ≤ maxLen) : w.ownsRow base 3 1 (.slice (some ⟨g, 0, none⟩) L.length L.length) L.length (nats L) :=
  ⟨by simp [nats], Or.inr ⟨g, L.length, _, rfl, hb, h, Nat.le_refl _, hm, by simp [nats], List.take_of_length_le (by simp [nats])⟩⟩

theorem natRow_made {w : World} {base g n : Nat} (h : w.ownsRow base 3 1 (.slice (some ⟨g, 0, none⟩) n n) n (madeCells (Value.int .i64 0).cells (n * 1)).toList) : natRow w g (List.replicate n 0) := by
  rcases h.2 with ⟨h0, _⟩ | ⟨g', cap, cur, hv, _, hg, _, _, hs, ht⟩
  · cases h0
  · simp only [Value.slice.injEq, Option.some.injEq, Addr.mk.injEq] at hv
    obtain ⟨⟨rfl, _⟩, _, rfl⟩ := hv
    unfold natRow
    rw [hg]
    congr 2
    apply Array.toList_inj.1
    rw [← List.take_of_length_le (l := cur.toList) (i := n * 1) (by simp [hs]), ht]
    apply List.ext_getElem
    · simp [madeCells, nats]
    · intro i h1 h2
      simp [madeCells, Value.cells, Nat.mod_one, nats]

namespace Code
theorem opOf_range (k : Nat) (h : k < 13) : 1 ≤ opOf k ∧ opOf k ≤ 2 := by
  match k, h with
  | 0, _ | 1, _ | 2, _ | 3, _ | 4, _ | 5, _ | 6, _ | 7, _ | 8, _ | 9, _ | 10, _ | 11, _ | 12, _ => decide

theorem ofN_length : ∀ (n : Nat) {s t : List UInt8} {l : List Nat}, ofN n s = some (l, t) → l.length = n ∧ t.length ≤ s.length ∧ ∀ x ∈ l, x < 60
  | 0, s, t, l, h => by
    simp only [ofN, Option.some.injEq, Prod.mk.injEq] at h
    obtain ⟨rfl, rfl⟩ := h
    simp
  | n + 1, s, t, l, h => by
    unfold ofN at h
    cases hc : cut [32] s with
    | none => rw [hc] at h; cases h
    | some r =>
      rw [hc] at h
      simp only [Option.bind_some] at h
      cases hv : value r with
      | none => rw [hv] at h; cases h
      | some p =>
        rw [hv] at h
        simp only [Option.bind_some] at h
        cases ho : ofN n p.2 with
        | none => rw [ho] at h; cases h
        | some q =>
          rw [ho] at h
          simp only [Option.map_some, Option.some.injEq, Prod.mk.injEq] at h
          obtain ⟨rfl, rfl⟩ := h
          have h1 := ofN_length n (show ofN n p.2 = some (q.1, q.2) from ho)
          have h2 := value_some (show value r = some (p.1, p.2) from hv)
          have h3 := cut_length hc
          refine ⟨by simp [h1.1], by simp at h3; omega, ?_⟩
          intro x hx
          rcases List.mem_cons.1 hx with rfl | hx
          · exact h2.1
          · exact h1.2.2 x hx
end Code

theorem row_next (done : List Nat) (n j x : Nat) (hj : done.length = j) (h : j < n) : (done ++ List.replicate (n - j) 0).set j x = done ++ [x] ++ List.replicate (n - (j + 1)) 0 := by
  subst hj
  rw [show n - done.length = (n - (done.length + 1)) + 1 by omega, List.replicate_succ, List.set_append_right _ _ (Nat.le_refl _)]
  simp

set_option maxRecDepth 100000 in
set_option maxHeartbeats 2000000 in
theorem apply_any (rb : Nat) (ww s : List UInt8) (l : Int) (a : Nat) (w : World) (hr : RdF w rb s l a) (hs : s.length ≤ 3000) (ht : Tab w) (hrb : 0 < rb) :
    Calls Tryd.prog 70 #[.pointer (some ⟨rb, 0, none⟩), .string (bs ww)] w fun e w' =>
      (∃ k of t v, Code.apply ww s = some (.apply k of, t) ∧ e = .returned (.agg #[.int .i64 (k : Nat), v]) ∧ w'.ownsRow w.heap.size 3 1 v of.length (nats of) ∧ RdF w' rb t l a ∧ t.length ≤ s.length ∧ w.grownBy w' (some rb)) ∨
      (Code.apply ww s = none ∧ Fails w rb 1 e w') := by
  obtain ⟨i0, hi, hi0, hi1, hi2⟩ := info_parts infoInt
  have hrlt := hr.lt
  go_enter Tryd.func70, Tryd.ntmps70
  go_wp2_with fail
  generalize hw0 : w.alloc _ = w0
  have hg0 : w.grownBy w0 (some rb) := by rw [← hw0]; exact grown_alloc _ _ _
  have hr0 : RdF w0 rb s l a := by rw [← hw0]; exact stay_alloc hr
  have hz0 : w0.heap.size = w.heap.size + 1 := by rw [← hw0]; simp
  have hn0 : w0.heap[w.heap.size]? = some (.cells #[.int .i64 0, .slice none 0 0] 97) := by rw [← hw0]; exact heap_alloc_new w _
  clear hw0
  refine (opNamed_any ww w0 (ht.grown hg0 hrb)).mono ?_
  rintro e w1 ⟨⟨k, hk, hc, rfl⟩ | ⟨hc, rfl⟩, hb1⟩
  case inr =>
    have hg1 : w0.grownBy w1 (some rb) := grown_below hb1
    have hr1 : RdF w1 rb s l a := by unfold RdF Rd; rw [hb1.block rb hr0.lt]; exact hr0
    have HC := hide hc
    clear hc
    go_wp2_with fail
    refine (fail_any rb _ s l 1 _ w1 hr1).mono ?_
    rintro e w2 ⟨⟨l', rfl⟩, hg2⟩
    go_wp2
    exact ⟨rfl, Or.inr ⟨by simp [Code.apply, HC.out], ⟨l', rfl⟩, grown_trans hg0 (grown_trans hg1 hg2)⟩⟩
  have hg1 : w0.grownBy w1 (some rb) := grown_below hb1
  have hr1 : RdF w1 rb s l a := by unfold RdF Rd; rw [hb1.block rb hr0.lt]; exact hr0
  have hn1 := kept_block hn0 hg1 (by omega)
  have HA : Hid (Code.apply ww s = (Code.ofN (Code.opOf k) s).map fun p => (.apply k p.1, p.2)) := by simp only [Hid, Code.apply, hc, Option.bind_some]
  have hop := Code.opOf_range k hk
  have hgw1 := grown_trans hg0 hg1
  have ht1 := ht.grown hgw1 hrb
  have hsz1 := hg1.size
  have HT := hide ht
  clear hc hn0 hr0 hg0 hg1 ht
  go_wp2_with fail
  refine (opOf_any k w1 hk ht1).mono ?_
  rintro e w1 ⟨rfl, rfl⟩
  generalize hN : Code.opOf k = N at *
  obtain ⟨hop1, hop2⟩ := hop
  go_wp2_with (first | (at_make; refine wpList_make_full _ rfl _ _ 31 rfl w.heap.size 3 i0 (.int .i64 0) 1 Tryd.underlying31 hi hi0 hi1 .i64 .i64 _ _ N rfl rfl rfl rfl (by rw [hi2]; omega) (by unfold maxLen; omega) (by omega) ?_; intro w2 hown2 hgrow2; have hnr2 := natRow_made hown2))
  have hg2 : w1.grownBy w2 (some rb) := ⟨hgrow2.os, hgrow2.tape, hgrow2.output, hgrow2.size, fun q hq _ => hgrow2.block q hq (by simp)⟩
  have hgw2 := grown_trans hgw1 hg2
  have hr2 : RdF w2 rb s l a := by unfold RdF Rd; rw [hgrow2.block rb hr1.lt (by simp)]; exact hr1
  have hn2 : w2.heap[w.heap.size]? = some (.cells #[.int .i64 0, .slice none 0 0] 97) := by rw [hgrow2.block _ (by omega) (by simp)]; exact hn1
  generalize hG : w1.heap.size = g at *
  have hgne : g ≠ rb := by have := hr1.lt; omega
  have hgw : w.heap.size + 1 ≤ g := by omega
  clear hown2 hgrow2 hgw1 hg2 hn1 hr1 ht1 hb1
  go_loopw [25] (fun i wr => ∃ (j : Nat) (done : List Nat) (t : List UInt8), j ≤ N ∧ done.length = j ∧ i = .int .i64 j ∧ natRow wr g (done ++ List.replicate (N - j) 0) ∧ RdF wr rb t l a ∧ t.length ≤ s.length ∧ w.grownBy wr (some rb) ∧
      wr.heap[w.heap.size]? = some (.cells #[.int .i64 0, .slice none 0 0] 97) ∧ Hid (Code.ofN N s = (Code.ofN (N - j) t).map fun q => (done ++ q.1, q.2)))
    (fun i _ => N - (intOf i).toNat)
  case atStart => exact ⟨0, [], s, by omega, rfl, rfl, by simpa using hnr2, hr2, Nat.le_refl _, hgw2, hn2, by simp [Hid]⟩
  case round =>
    obtain ⟨j, done, t, hj, hdl, rfl, hnr, hrd, htl, hgr, hnn, hsp⟩ := hrel
    by_cases hlt : j < N
    · have hsp' : Hid (Code.ofN N s = ((Code.cut [32] t).bind fun r => (Code.value r).bind fun p => (Code.ofN (N - (j + 1)) p.2).map fun q => (p.1 :: q.1, q.2)).map fun q => (done ++ q.1, q.2)) := by
        rw [hsp.out, show N - j = (N - (j + 1)) + 1 by omega]; exact rfl
      clear hsp
      go_wp2_with fail
      refine (take_any rb _ t [32] l 1 _ wr hrd (by omega) (by simp)).mono ?_
      rintro e w3 (⟨r3, hc, rfl, hr3, hg3⟩ | ⟨hc, ⟨l', rfl⟩, hg3⟩)
      case inr =>
        go_wp2
        exact ⟨rfl, Or.inr ⟨by rw [HA.out, hsp'.out, hc]; rfl, ⟨l', rfl⟩, grown_trans hgr hg3⟩⟩
      have H3 : Hid (Code.ofN N s = ((Code.value r3).bind fun p => (Code.ofN (N - (j + 1)) p.2).map fun q => (p.1 :: q.1, q.2)).map fun q => (done ++ q.1, q.2)) := by
        rw [hsp'.out, hc]; exact rfl
      have l3 := Code.cut_length hc
      clear hc hsp'
      go_wp2_with fail
      refine (value_any rb r3 l a w3 hr3 (by omega)).mono ?_
      rintro e w4 (⟨x, r4, hc, rfl, hr4, hg4⟩ | ⟨hc, ⟨l', rfl⟩, hg4⟩)
      case inr =>
        go_wp2
        exact ⟨rfl, Or.inr ⟨by rw [HA.out, H3.out, hc]; rfl, ⟨l', rfl⟩, grown_trans hgr (grown_trans hg3 hg4)⟩⟩
      have H4 : Hid (Code.ofN N s = (Code.ofN (N - (j + 1)) r4).map fun q => (done ++ [x] ++ q.1, q.2)) := by
        rw [H3.out, hc]
        refine hide ?_
        simp only [Option.bind_some, Option.map_map]
        congr 1
        funext q
        simp
      have l4 := (Code.value_some hc).2
      clear hc H3
      have hnr4 : natRow w4 g (done ++ List.replicate (N - j) 0) := kept_block (kept_block hnr hg3 hgne) hg4 hgne
      have hnn4 := kept_block (kept_block hnn hg3 (by omega)) hg4 (by omega)
      have hc4 := hnr4.cell j (by simp; omega)
      have hf4 := blk_froz hnr4 j
      have hjl : (j : Int) < (N : Int) := by omega
      go_wp2
      refine ⟨⟨j + 1, done ++ [x], r4, by omega, by simp [hdl], by go_num, ?_, stay_set hr4 hgne.symm, by omega, grown_new (grown_trans hgr (grown_trans hg3 hg4)) (by omega) _ _, stay_set hnn4 (show w.heap.size ≠ g by omega), H4⟩, by simp [intOf]; omega⟩
      have := hnr4.set j x
      rw [row_next done N j x hdl hlt] at this
      exact this
    · have hjn : j = N := by omega
      have HD : Hid (Code.apply ww s = some (.apply k done, t)) := by
        rw [HA.out, hsp.out, hjn]
        simp [Hid, Code.ofN]
      have HR : Hid (natRow wr g done) := by
        have h := hnr
        rw [hjn] at h
        simpa [Hid] using h
      have HL : Hid (done.length = N) := hide (by omega)
      clear hsp hnr
      have hc0 := blk_cell hnn 0 _ rfl
      have hc1 := blk_cell hnn 1 _ rfl
      have hf0 := blk_froz hnn 0
      have hf1 := blk_froz hnn 1
      clear hdl
      go_wp2
      refine bodyPost_ret (v := .agg #[.int .i64 (k : Nat), .slice (some ⟨g, 0, none⟩) N N]) (by simp [results, Tryd.results70, go_sem, hc0, hc1]) rfl ?_
      have hgn : g ≠ w.heap.size := by omega
      have hrn : rb ≠ w.heap.size := by omega
      refine Or.inl ⟨k, done, t, _, HD.out, rfl, ?_, stay_set (stay_set hrd hrn) hrn, htl, grown_new (grown_new hgr (Nat.le_refl _) _ _) (Nat.le_refl _) _ _⟩
      rw [← HL.out]
      exact natRow.own (stay_set (stay_set HR.out hgn) hgn) (by omega) (by rw [HL.out]; unfold maxLen; omega)
end Go.Proofs.YtdffpkmabehfbaaDoor
