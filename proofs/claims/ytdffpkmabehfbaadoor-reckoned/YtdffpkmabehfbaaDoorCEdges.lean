/-
  Walk: code.Function.edges.
-/
import Derived.Test.YtdffpkmabehfbaaDoorCMap
namespace Go.Proofs.YtdffpkmabehfbaaDoor
open Go.RowKit

namespace Code
/-- The edges of a block: from where, which way, to where. -/
def edgesTo (i : Nat) : List Nat → Nat → List (Nat × Nat × Nat)
  | [], _ => []
  | t :: r, k => (i, k, t) :: edgesTo i r (k + 1)

def edgesGo : List Blk → Nat → List (Nat × Nat × Nat)
  | [], _ => []
  | b :: r, i => edgesTo i (tg b.last) 0 ++ edgesGo r (i + 1)

/-- How many edges there are into each block, and which place an edge has. -/
structure Edges where
  counts : List Nat
  places : Nat → Nat → Nat

def Edges.add (E : Edges) (e : Nat × Nat × Nat) : Edges := ⟨E.counts.set e.2.2 (E.counts.getD e.2.2 0 + 1), put2 E.places e.1 e.2.1 (E.counts.getD e.2.2 0)⟩

def edges (bks : List Blk) : Edges := (edgesGo bks 0).foldl Edges.add ⟨List.replicate bks.length 0, fun _ _ => 0⟩

theorem add_length (E : Edges) (e : Nat × Nat × Nat) : (E.add e).counts.length = E.counts.length := by simp [Edges.add]

theorem tg_length (z : Last) : (tg z).length ≤ 2 := by cases z <;> simp [tg]

theorem counts_range (E : Edges) (n : Nat) (h : ∀ x ∈ E.counts, x ≤ n) (e : Nat × Nat × Nat) : ∀ x ∈ (E.add e).counts, x ≤ n + 1 := by
  intro x hx
  rcases List.mem_or_eq_of_mem_set hx with hx | rfl
  · have := h x hx; omega
  · by_cases hl : e.2.2 < E.counts.length
    · have := h _ (List.getElem_mem hl)
      rw [List.getD_eq_getElem?_getD, List.getElem?_eq_getElem hl]
      simp only [Option.getD_some]; omega
    · rw [List.getD_eq_getElem?_getD, List.getElem?_eq_none (by omega)]
      simp
end Code

/-- Blocks in a row: the slice, and block by block what is there. -/
theorem RepBlks.open {w : World} {base : Nat} {v : Value} {l : List Code.Blk} (h : RepBlks w base v l) :
    ∃ p cap, v = .slice p l.length cap ∧ ∀ k (h : k < l.length), ∃ g vs, p = some ⟨g, 0, none⟩ ∧ g < w.heap.size ∧ w.cell? ⟨g, k * 2, none⟩ = some vs ∧ w.cell? ⟨g, k * 2 + 1, none⟩ = some (lastV l[k].last) ∧ RepVals w base vs l[k].values := by
  obtain ⟨cs, h1, h2⟩ := h
  obtain ⟨p, cap, hv⟩ := own_slice h1
  refine ⟨p, cap, hv, fun k hk => ?_⟩
  obtain ⟨g, cap', hv', _, hg, hc⟩ := row_open h1 (by omega)
  rw [hv] at hv'
  simp only [Value.slice.injEq] at hv'
  obtain ⟨vs, g0, g1, g2⟩ := h2 k hk
  exact ⟨g, vs, hv'.1, hg, hc _ _ g0, hc _ _ g1, g2⟩

theorem own_at {w w' : World} {base e size n : Nat} {v : Value} {xs : List Value} (h : w.ownsRow base e size v n xs) (hb : ∀ b, v.ownBlock = some b → w'.heap[b]? = w.heap[b]?) : w'.ownsRow base e size v n xs := by
  refine ⟨h.1, ?_⟩
  rcases h.2 with h0 | ⟨g, cap, cur, hv, hbg, hgg, r⟩
  · exact Or.inl h0
  · exact Or.inr ⟨g, cap, cur, hv, hbg, by rw [hb g (by rw [hv]; rfl)]; exact hgg, r⟩

set_option maxRecDepth 100000 in
set_option maxHeartbeats 4000000 in
theorem edges_any (args : Nat) (bks : List Code.Blk) (p : Option Addr) (c : Nat) (base : Nat) (w : World) (hf : RepBlks w base (.slice p bks.length c) bks) (hn : bks.length ≤ 8) (ht : ∀ b ∈ bks, ∀ t ∈ Code.tg b.last, t < bks.length) :
    Calls Tryd.prog 23 #[.agg #[.int .i64 (args : Nat), .slice p bks.length c]] w fun e w' =>
      ∃ mb g n, e = .returned (.tuple #[.map (some mb), .slice (some ⟨g, 0, none⟩) bks.length bks.length]) ∧ w.heap.size ≤ mb ∧ w.heap.size ≤ g ∧ EMap w' mb n (Code.edges bks).places ∧ natRow w' g (Code.edges bks).counts ∧ Below w.heap.size w w' := by
  obtain ⟨i0, hi, hi0, hi1, hi2⟩ := info_parts infoInt
  have HF := hide hf
  have HTG := hide ht
  clear hf ht
  have hmk : ∀ w : World, (Instr.makeMap 65 none).run Tryd.prog w = .ok (.map (some w.heap.size)) (w.alloc (.map #[] 0)) := fun w => by kernel_rfl
  go_enter Tryd.func23, Tryd.ntmps23
  go_wp2_with (first | (at_make; refine wpList_make_full _ rfl _ _ 31 rfl w.heap.size 3 i0 (.int .i64 0) 1 Tryd.underlying31 hi hi0 hi1 .i64 .i64 _ _ bks.length rfl rfl rfl rfl (by rw [hi2]; omega) (by unfold maxLen; omega) (by simp; omega) ?_; intro w2 hown2 hgrow2; have hnr2 := natRow_made hown2; rw [alloc_size, alloc_size] at hnr2; have hbx : w2.heap[w.heap.size]? = some (.cells #[.int .i64 (args : Nat), .slice p bks.length c] 43) := (hgrow2.block _ (by simp; omega) (by simp)).trans (stay_alloc (heap_alloc_new w _)); have hc1 := blk_cell hbx 1 _ rfl))
  have hb2 : Below w.heap.size w w2 := by
    have h := below_al (below_al (Below.refl w.heap.size w) (.cells #[.int .i64 (args : Nat), .slice p bks.length c] 43)) (.map #[] 0)
    exact h.trans ⟨hgrow2.os, hgrow2.tape, hgrow2.output, hgrow2.size, fun k hk => hgrow2.block k (by simp; omega) (by simp)⟩
  have hE2 : EMap w2 (w.heap.size + 1) 0 (fun _ _ => 0) := by
    have h := EMap.made (w.alloc (.cells #[.int .i64 (args : Nat), .slice p bks.length c] 43))
    rw [alloc_size] at h
    exact h.kept hgrow2 (by simp)
  clear hown2 hgrow2 hbx hc1
  obtain ⟨p', c', hpe, hblk⟩ := HF.out.open
  simp only [Value.slice.injEq] at hpe
  obtain ⟨rfl, _, rfl⟩ := hpe
  have HBLK := hide hblk
  clear hblk
  go_loopw [18] (fun i wr => ∃ (j n : Nat) (E : Code.Edges), j ≤ bks.length ∧ i = .int .i64 j ∧ n ≤ 2 * j ∧ E.counts.length = bks.length ∧ (∀ x ∈ E.counts, x ≤ n) ∧ EMap wr (w.heap.size + 1) n E.places ∧ natRow wr (w.heap.size + 1 + 1) E.counts ∧ Below w.heap.size w wr ∧
      Hid ((Code.edgesGo (bks.drop j) j).foldl Code.Edges.add E = Code.edges bks)) (fun i _ => bks.length - (intOf i).toNat)
  case atStart => exact ⟨0, 0, ⟨List.replicate bks.length 0, fun _ _ => 0⟩, by omega, rfl, by omega, by simp, fun x hx => by rw [List.eq_of_mem_replicate hx]; omega, hE2, hnr2, hb2, hide rfl⟩
  case round =>
    obtain ⟨j, n, E, hj, rfl, hnj, hEl, hEx, hE, hnr, hbw, hsp⟩ := hrel
    clear hE2 hnr2 hb2
    have hz := hbw.size
    have hltE := hE.lt
    have hltN := lt_of_block hnr
    have HEX := hide hEx
    clear hEx
    by_cases hlt : j < bks.length
    · obtain ⟨g, vs, rfl, hg, c0, c1, hvs⟩ := HBLK.out j hlt
      obtain ⟨pv, cv, rfl, hvv⟩ := hvs.open
      clear hvv
      have c0' : wr.cell? ⟨g, j * 2, none⟩ = some (.slice pv bks[j].values.length cv) := by rw [(bcell hbw).1 g _ hg]; exact c0
      have c1' : wr.cell? ⟨g, j * 2 + 1, none⟩ = some (lastV bks[j].last) := by rw [(bcell hbw).1 g _ hg]; exact c1
      have HTA := hide (targets_any bks[j].last)
      have htb : ∀ t ∈ Code.tg bks[j].last, t < bks.length := HTG.out bks[j] (List.getElem_mem hlt)
      have HSP : Hid ((Code.edgesTo j (Code.tg bks[j].last) 0 ++ Code.edgesGo (bks.drop (j + 1)) (j + 1)).foldl Code.Edges.add E = Code.edges bks) := by
        have h := hsp.out
        rw [List.drop_eq_getElem_cons hlt] at h
        exact h
      have htl := Code.tg_length bks[j].last
      generalize Code.tg bks[j].last = tl at *
      obtain ⟨T, zv, hzv⟩ := lastV_shape bks[j].last
      rw [hzv] at c1' HTA
      clear c0 c1 hvs hsp hzv
      generalize bks[j].values.length = vl at *
      go_wp2_with fail
      generalize hw3 : wr.alloc _ = w3
      have hb3 : Below wr.heap.size wr w3 := by rw [← hw3]; exact below_al (Below.refl _ _) _
      clear hw3
      refine (HTA.out w3).mono ?_
      rintro e w4 ⟨v4, rfl, hown4, hb4⟩
      have hsz3' := hb3.size
      have hb34 : Below wr.heap.size wr w4 := hb3.trans (hb4.mono hb3.size)
      have hE4 := hE.below hb34
      have hnr4 : natRow w4 (w.heap.size + 1 + 1) E.counts := (hb34.block _ hltN).trans hnr
      have hbw4 : Below w.heap.size w w4 := hbw.trans (hb34.mono hz)
      clear hb3 hb34 hE hnr c0' c1'
      obtain ⟨p4, c4, rfl, hval4⟩ := nats_open hown4
      have HV4 := hide hval4
      have hsz3 := hb4.size
      have hsz0 : w.heap.size + 1 + 1 < w3.heap.size := Nat.lt_of_lt_of_le hltN hsz3'
      clear hval4 hb4
      go_wp2_with fail
      rename World => wo
      go_loopw [27] (fun i ws => ∃ (k n' : Nat) (E' : Code.Edges), k ≤ tl.length ∧ i = .int .i64 k ∧ n' ≤ 2 * j + k ∧ E'.counts.length = bks.length ∧ (∀ x ∈ E'.counts, x ≤ n') ∧ EMap ws (w.heap.size + 1) n' E'.places ∧ natRow ws (w.heap.size + 1 + 1) E'.counts ∧ Below w.heap.size w ws ∧
          ws.ownsRow w3.heap.size 3 1 (.slice p4 tl.length c4) tl.length (nats tl) ∧
          Hid ((Code.edgesTo j (tl.drop k) k ++ Code.edgesGo (bks.drop (j + 1)) (j + 1)).foldl Code.Edges.add E' = Code.edges bks)) (fun i _ => tl.length - (intOf i).toNat)
      case atStart => exact ⟨0, n, E, by omega, rfl, by omega, hEl, HEX.out, hE4, hnr4, hbw4, hown4, HSP⟩
      case round =>
        obtain ⟨k, n', E', hk, rfl, hnk, hEl', hEx', hE', hnr', hbw', hown', hsp'⟩ := hrel
        rename_i ws _
        clear hE4 hnr4 hbw4 hown4 HSP HV4
        have HEX' := hide hEx'
        clear hEx'
        by_cases hkt : k < tl.length
        · obtain ⟨p5, c5, hpe, hval⟩ := nats_open hown'
          simp only [Value.slice.injEq] at hpe
          obtain ⟨rfl, _, rfl⟩ := hpe
          obtain ⟨g4, rfl, ct⟩ := hval k hkt
          clear hval
          have htk := htb tl[k] (List.getElem_mem hkt)
          have hcl : tl[k] < E'.counts.length := by omega
          have hcell := hnr'.cell tl[k] hcl
          have hxn := HEX'.out E'.counts[tl[k]] (List.getElem_mem hcl)
          have hgd : E'.counts.getD tl[k] 0 = E'.counts[tl[k]] := by rw [List.getD_eq_getElem?_getD, List.getElem?_eq_getElem hcl]; rfl
          have HS : Hid ((Code.edgesTo j (tl.drop (k + 1)) (k + 1) ++ Code.edgesGo (bks.drop (j + 1)) (j + 1)).foldl Code.Edges.add (E'.add (j, k, tl[k])) = Code.edges bks) := by
            have h := hsp'.out
            rw [List.drop_eq_getElem_cons hkt] at h
            exact h
          have hcr := Code.counts_range E' n' HEX'.out (j, k, tl[k])
          have HCR := hide hcr
          obtain ⟨w6, hrun, hE6, hg6⟩ := hE'.put (by omega) j k E'.counts[tl[k]] (by omega) (by omega) (by omega)
          unfold edgeV at hrun
          have hnr6 : natRow w6 (w.heap.size + 1 + 1) E'.counts := (hg6.block _ (lt_of_block hnr') (by simp)).trans hnr'
          have hc6 := hnr6.cell tl[k] hcl
          have hf6 := blk_froz hnr6 tl[k]
          have hE7 : EMap w6 (w.heap.size + 1) (n' + 1) (E'.add (j, k, tl[k])).places := by
            have h := hE6
            rw [← hgd] at h
            exact h
          have HADD : Hid ((E'.add (j, k, tl[k])).counts = E'.counts.set tl[k] (E'.counts[tl[k]] + 1)) := by
            refine hide ?_
            show E'.counts.set tl[k] (E'.counts.getD tl[k] 0 + 1) = _
            rw [hgd]
          have hbw6 : Below w.heap.size w w6 := hbw'.trans ⟨hg6.os, hg6.tape, hg6.output, hg6.size, fun q hq => hg6.block q (by have := hbw'.size; omega) (by simp; omega)⟩
          have hi1 : (tl[k] : Int) < (bks.length : Int) := by omega
          have hown6 := hown'.kept hg6 (by
            by_cases h : (Value.slice (some ⟨g4, 0, none⟩) tl.length c4).ownBlock = none
            · exact Or.inl h
            · refine Or.inr (fun e => ?_)
              have h1 := (hown'.lt _ e).1
              have h2 := hsz0
              omega)
          clear hgd hcr hsp' hE6 hE' hnr' hown'
          generalize hX : E'.counts[tl[k]] = X at *
          go_wp2
          refine ⟨⟨k + 1, n' + 1, E'.add (j, k, tl[k]), by omega, by go_num, by omega, by rw [Code.add_length]; exact hEl', HCR.out, hE7.kept (grown_set _ _ _ _) (by simp), ?_, below_set hbw6 (by omega) _ _, hown6.kept (grown_set _ _ _ _) ?_, HS⟩, by simp [intOf]; omega⟩
          · have h := hnr6.set tl[k] (X + 1)
            rw [show ((X + 1 : Nat) : Int) = (X : Int) + 1 by omega] at h
            rw [HADD.out]
            exact h
          · by_cases h : (Value.slice (some ⟨g4, 0, none⟩) tl.length c4).ownBlock = none
            · exact Or.inl h
            · refine Or.inr (fun e => ?_)
              have h1 := (hown6.lt _ e).1
              omega
        · have HS : Hid ((Code.edgesGo (bks.drop (j + 1)) (j + 1)).foldl Code.Edges.add E' = Code.edges bks) := by
            have h := hsp'.out
            rw [List.drop_of_length_le (by omega)] at h
            exact h
          clear hsp' hown'
          go_wp2
          exact ⟨⟨j + 1, n', E', by omega, by go_num, by omega, hEl', HEX'.out, hE', hnr', hbw', HS⟩, by simp [intOf]; omega⟩
    · have HS : Hid (E = Code.edges bks) := by
        have h := hsp.out
        rw [List.drop_of_length_le (by omega)] at h
        exact h
      clear hsp
      go_wp2
      go_ret2
      refine ⟨w.heap.size + 1, w.heap.size + 1 + 1, n, rfl, by omega, by omega, ?_, ?_, hbw⟩
      · rw [← HS.out]; exact hE
      · rw [← HS.out]; exact hnr
end Go.Proofs.YtdffpkmabehfbaaDoor
