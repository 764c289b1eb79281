/-
  Walk: code.reader.function, of a text that is right.
-/
import Derived.Test.YtdffpkmabehfbaaDoorCBlock
namespace Go.Proofs.YtdffpkmabehfbaaDoor
open Go.RowKit

/-- Blocks in a row, each in two cells. -/
def RepBlks (w : World) (base : Nat) (v : Value) (l : List Code.Blk) : Prop :=
  ∃ cs, w.ownsRow base 72 2 v l.length cs ∧ ∀ i (h : i < l.length), ∃ vs, cs[i * 2]? = some vs ∧ cs[i * 2 + 1]? = some (lastV l[i].last) ∧ RepVals w base vs l[i].values

theorem RepBlks.mono {w w' : World} {base base' : Nat} {v : Value} {l : List Code.Blk} (h : RepBlks w base v l) (hb : ∀ r n xs, w.ownsRow base 72 2 r n xs → w'.ownsRow base' 72 2 r n xs)
    (hv : ∀ r n xs, w.ownsRow base 88 2 r n xs → w'.ownsRow base' 88 2 r n xs)
    (hk : ∀ r n xs, w.ownsRow base 3 1 r n xs → w'.ownsRow base' 3 1 r n xs) : RepBlks w' base' v l := by
  obtain ⟨cs, h1, h2⟩ := h
  refine ⟨cs, hb _ _ _ h1, fun i hi => ?_⟩
  obtain ⟨vs, g0, g1, g2⟩ := h2 i hi
  exact ⟨vs, g0, g1, g2.mono hv hk⟩

theorem RepBlks.kept {w w' : World} {base rb : Nat} {v : Value} {l : List Code.Blk} (h : RepBlks w base v l) {C : Array Value} {z : Nat × Nat} (hb : w.heap[rb]? = some (.cells C 62 z)) (hg : w.grownBy w' (some rb)) : RepBlks w' base v l :=
  h.mono (fun _ _ _ h => own_kept hb hg h (by decide)) (fun _ _ _ h => own_kept hb hg h (by decide)) (fun _ _ _ h => own_kept hb hg h (by decide))

theorem RepBlks.below {w w' : World} {base : Nat} {v : Value} {l : List Code.Blk} (h : RepBlks w base v l) (hb : Below w.heap.size w w') : RepBlks w' base v l :=
  h.mono (fun _ _ _ h => own_below h hb) (fun _ _ _ h => own_below h hb) (fun _ _ _ h => own_below h hb)

theorem RepVals.below {w w' : World} {base : Nat} {v : Value} {l : List Code.Val} (h : RepVals w base v l) (hb : Below w.heap.size w w') : RepVals w' base v l :=
  h.mono (fun _ _ _ h => own_below h hb) (fun _ _ _ h => own_below h hb)

theorem own_new2 (W : World) {base e : Nat} (x y : Value) (hb : base ≤ W.heap.size) : (W.alloc (.cells #[x, y] e)).ownsRow base e 2 (.slice (some ⟨W.heap.size, 0, none⟩) 1 1) 1 [x, y] :=
  ⟨by simp, Or.inr ⟨_, _, #[x, y], rfl, hb, heap_alloc_new W _, Nat.le_refl _, by decide, by simp, rfl⟩⟩

theorem RepBlks.snoc {w w3 : World} {base : Nat} {v v' : Value} {l : List Code.Blk} {cs : List Value} {y : Code.Blk} {vs : Value}
    (hown : w.ownsRow base 72 2 v l.length cs) (hcs : ∀ i (h : i < l.length), ∃ vs, cs[i * 2]? = some vs ∧ cs[i * 2 + 1]? = some (lastV l[i].last) ∧ RepVals w base vs l[i].values)
    (hown' : w3.ownsRow base 72 2 v' (l.length + 1) (cs ++ [vs, lastV y.last])) (hth : RepVals w base vs y.values) (hg : w.grownBy w3 v.ownBlock) : RepBlks w3 base v' (l ++ [y]) := by
  have hk : ∀ r n xs, w.ownsRow base 3 1 r n xs → w3.ownsRow base 3 1 r n xs := fun r n xs h => own_grown hown h (by decide) hg
  have hk2 : ∀ r n xs, w.ownsRow base 88 2 r n xs → w3.ownsRow base 88 2 r n xs := fun r n xs h => own_grown hown h (by decide) hg
  have hlen := own_len hown
  refine ⟨_, by simpa using hown', fun i hi => ?_⟩
  by_cases hlt : i < l.length
  · obtain ⟨t, g0, g1, g2⟩ := hcs i hlt
    refine ⟨t, ?_, ?_, ?_⟩
    · rw [List.getElem?_append_left (by omega)]; exact g0
    · rw [List.getElem?_append_left (by omega), List.getElem_append_left hlt]; exact g1
    · rw [List.getElem_append_left hlt]; exact g2.mono hk2 hk
  · have hi' : i = l.length := by simp at hi; omega
    subst hi'
    refine ⟨vs, ?_, ?_, ?_⟩
    · rw [List.getElem?_append_right (by omega), hlen]; simp
    · rw [List.getElem?_append_right (by omega), hlen]; simp
    · simpa using hth.mono hk2 hk

theorem infoBlk : (Tryd.prog.info? 72).map (fun i => (i.zero, i.size, i.bytes)) = some (some (.agg #[.slice none 0 0, .nilIface]), 2, 40) := by kernel_rfl

/-- A function that has been read: where its blocks lie. -/
def RepFn (w : World) (base : Nat) (v : Value) (f : Code.Fn) : Prop := RepBlks w base v f.blocks

set_option maxRecDepth 100000 in
set_option maxHeartbeats 4000000 in
theorem function_ok (rb : Nat) (s : List UInt8) (f : Code.Fn) (l : Int) (a : Nat) (w : World) (hr : RdF w rb s l a) (hs : s.length ≤ 3000) (hl : 0 ≤ l ∧ l + s.length ≤ 100000) (ht : Tab w) (hrb : 0 < rb) (hf : Code.FnIs s f) :
    Calls Tryd.prog 21 #[.pointer (some ⟨rb, 0, none⟩)] w fun e w' =>
      ∃ p c, e = .returned (.agg #[.int .i64 (f.args : Nat), .slice p f.blocks.length c]) ∧ RepBlks w' w.heap.size (.slice p f.blocks.length c) f.blocks ∧ w.grownBy w' (some rb) := by
  obtain ⟨hl0, hl1⟩ := hl
  obtain ⟨i0, hi, hz0', hz1, hz2⟩ := info_parts infoBlk
  cases hf with
  | mk h1 h2 h3 h4 h5 =>
    rename_i r1 r2 r3 r4 args b bks
    have l1 := Code.cut_length h1
    have l2 := (Code.below_some h2).2
    have l3 := Code.cut_length h3
    simp only [List.length_cons, List.length_nil, Code.sFunc] at l1 l3
    have H1 := hide h1
    have H2 := hide h2
    have H3 := hide h3
    have H4 := hide h4
    have H5 := hide h5
    have HT := hide ht
    unfold Code.sFunc at H1
    clear h1 h2 h3 h4 h5 ht
    have hrlt := hr.lt
    go_enter Tryd.func21, Tryd.ntmps21
    go_wp2_with fail
    generalize hw0 : w.alloc _ = w0
    have hg0 : w.grownBy w0 (some rb) := by rw [← hw0]; exact grown_alloc _ _ _
    have hr0 : RdF w0 rb s l a := by rw [← hw0]; exact stay_alloc hr
    have hz0 : w0.heap.size = w.heap.size + 1 := by rw [← hw0]; simp
    have hn0 : w0.heap[w.heap.size]? = some (.cells #[.int .i64 0, .slice none 0 0] 43) := by rw [← hw0]; exact heap_alloc_new w _
    clear hw0
    refine (take_any rb _ s [102, 117, 110, 99, 32] l 1 _ w0 hr0 hs (by simp)).mono ?_
    rw [H1.out]
    rintro e w1 (⟨r', he, rfl, hr1, hg1⟩ | ⟨he, _⟩)
    case inr => cases he
    cases he
    clear H1
    go_wp2_with fail
    refine (below_any rb _ r1 l 1 5 _ w1 hr1 (by omega)).mono ?_
    rw [H2.out]
    rintro e w2 (⟨n', r', he, rfl, hr2, hg2⟩ | ⟨he, _⟩)
    case inr => cases he
    cases he
    clear H2
    have c3 := hr2.c3
    have f3 := hr2.fz 3
    go_wp2_with fail
    generalize hw3 : w2.setCell _ _ = w3
    have hr3 : RdF w3 rb r2 l args := by rw [← hw3]; exact hr2.set3 _
    have hg3 : w2.grownBy w3 (some rb) := by rw [← hw3]; exact grown_set _ _ _ _
    have hg3' := grown_trans hg1 (grown_trans hg2 hg3)
    clear hw3 hg1 hg2 hg3 hr1 hr2 c3 f3
    refine (lineEnd_any rb r2 l args w3 hr3 (by omega) ⟨hl0, by omega⟩).mono ?_
    rw [H3.out]
    rintro e w4 (⟨r', he, rfl, hr4, hg4⟩ | ⟨he, _⟩)
    case inr => cases he
    cases he
    clear H3
    have hg4' := grown_trans hg3' hg4
    have hn4 := kept_block hn0 hg4' (by omega)
    have hgw4 := grown_trans hg0 hg4'
    clear hg3' hg4 hr3 hr0 hn0
    go_wp2_with fail
    refine (block_ok rb r3 r4 0 b (l + 1) args w4 hr4 (by omega) ⟨by omega, by omega⟩ (HT.out.grown hgw4 hrb) hrb H4.out).mono ?_
    rintro e w5 ⟨p, c, l5, rfl, hrep5, hr5, hl50, hl51, l5', hg5⟩
    clear H4
    have hgw5 := grown_trans hgw4 hg5
    have hn5 := kept_block hn4 hg5 (by omega)
    have HREP : Hid (RepVals w5 w.heap.size (.slice p b.values.length c) b.values) := hide (hrep5.mono (fun _ _ _ h => own_base h hgw4.size) (fun _ _ _ h => own_base h hgw4.size))
    clear hrep5 hg5 hn4 hr4 hgw4
    obtain ⟨T, pv, hzv⟩ : ∃ T pv, lastV b.last = .iface T pv := by cases b.last <;> exact ⟨_, _, rfl⟩
    have HZ := hide hzv
    simp only [hzv]
    clear hzv
    go_wp2_with fail
    have hsz5 := hgw5.size
    have hrep6 : RepBlks (w5.alloc (.cells #[.slice p b.values.length c, .iface T pv] 72)) w.heap.size (.slice (some ⟨w5.heap.size, 0, none⟩) 1 1) [b] := by
      refine ⟨_, own_new2 w5 _ _ hsz5, fun i hi => ?_⟩
      have hi0 : i = 0 := by simpa using hi
      subst hi0
      exact ⟨_, rfl, by simp [HZ.out], HREP.out.below (below_al (Below.refl _ _) _)⟩
    generalize hw6 : w5.alloc _ = w6 at *
    have hr6 : RdF w6 rb r4 l5 args := by rw [← hw6]; exact stay_alloc hr5
    have hn6 : w6.heap[w.heap.size]? = some (.cells #[.int .i64 0, .slice none 0 0] 43) := by rw [← hw6]; exact stay_alloc hn5
    have hgw6 : w.grownBy w6 (some rb) := grown_trans hgw5 (by rw [← hw6]; exact grown_alloc _ _ _)
    clear hw6 hr5 hn5 hgw5 HREP HZ hg4'
    go_loopw [3] (fun v wr => ∃ (done more : List Code.Blk) (s' : List UInt8) (l' : Int), RepBlks wr w.heap.size v done ∧ RdF wr rb s' l' args ∧ 0 ≤ l' ∧ l' + s'.length ≤ 100000 ∧ w.grownBy wr (some rb) ∧
        done.length + s'.length ≤ s.length ∧ wr.heap[w.heap.size]? = some (.cells #[.int .i64 0, .slice none 0 0] 43) ∧ Hid (Code.BlocksIs args done.length s' more ∧ done ++ more = b :: bks))
      (fun _ wr => restLen wr rb)
    case atStart => exact ⟨[b], bks, r4, l5, hrep6, hr6, hl50, hl51, hgw6, by simp; omega, hn6, hide ⟨H5.out, rfl⟩⟩
    case round =>
      obtain ⟨done, more, s', l', hrep, hrd, hl0', hl1', hgr, hdl, hnn, hsp⟩ := hrel
      clear hrep6 hr6 hn6 hgw6 H5
      have hm0 := hide (restLen_of hrd)
      have c0 := hrd.c0
      have c3 := hrd.c3
      obtain ⟨cs, hcs, hcs2⟩ := hrep
      obtain ⟨p, c, rfl⟩ := own_slice hcs
      have HREP : Hid (RepBlks wr w.heap.size (.slice p done.length c) done) := hide ⟨cs, hcs, hcs2⟩
      clear hcs hcs2
      have hdone := hsp.out.1
      generalize hN : done.length = N at *
      generalize hM : more = M at *
      have HE := hide hsp.out.2
      clear hsp
      cases hdone with
      | nil =>
        have q1 : ((bs ([] : List UInt8)).toList == []) = true := toList_yes (by rw [bl_bs])
        have HEQ : Hid (done = b :: bks) := by
          have := HE.out
          rw [List.append_nil] at this
          exact this
        have hc0 := blk_cell hnn 0 _ rfl
        have hc1 := blk_cell hnn 1 _ rfl
        have hf0 := blk_froz hnn 0
        have hf1 := blk_froz hnn 1
        go_wp2
        refine bodyPost_ret (v := .agg #[.int .i64 (args : Nat), .slice p N c]) (by simp [results, Tryd.results21, go_sem, hc0, hc1]) rfl ?_
        have hlen : N = (b :: bks).length := by rw [← HEQ.out]; exact hN.symm
        have e2 : N = bks.length + 1 := by simpa using hlen
        refine ⟨p, c, by rw [hlen]; rfl, ?_, grown_new (grown_new hgr (Nat.le_refl _) _ _) (Nat.le_refl _) _ _⟩
        have := HREP.out.mono (fun _ _ _ h => own_set (u := .int .i64 (args : Nat)) (o := 0) h hnn (by decide)) (fun _ _ _ h => own_set (o := 0) (u := .int .i64 (args : Nat)) h hnn (by decide)) (fun _ _ _ h => own_set (o := 0) (u := .int .i64 (args : Nat)) h hnn (by decide))
        have := this.mono (fun _ _ _ h => own_set (u := .slice p N c) (o := 1) h (set_block hnn) (by decide)) (fun _ _ _ h => own_set (o := 1) (u := .slice p N c) h (set_block hnn) (by decide)) (fun _ _ _ h => own_set (o := 1) (u := .slice p N c) h (set_block hnn) (by decide))
        rw [HEQ.out] at this
        show RepBlks _ _ (.slice p (bks.length + 1) c) _
        rw [← e2]
        exact this
      | cons h1 h2 h3 =>
        rename_i r b' bks'
        have q1 : ((bs s').toList == []) = false := toList_no (by rw [bl_bs]; exact h1)
        have H2 := hide h2
        have H3 := hide h3
        have HN := hide hN
        clear h1 h2 h3 hN
        go_wp2_with fail
        refine (block_ok rb s' r N b' l' args wr hrd (by omega) ⟨by omega, by omega⟩ (HT.out.grown hgr hrb) hrb H2.out).mono ?_
        rintro e w5 ⟨p5, c5, l5, rfl, hrep5, hr5, hl50, hl51, l5', hg5⟩
        have hgw5 := grown_trans hgr hg5
        have hn5 := kept_block hnn hg5 (by omega)
        have HREP5 : Hid (RepVals w5 w.heap.size (.slice p5 b'.values.length c5) b'.values) := hide (hrep5.mono (fun _ _ _ h => own_base h hgr.size) (fun _ _ _ h => own_base h hgr.size))
        obtain ⟨cs, hcs1, hcs2⟩ := HREP.out.kept hrd hg5
        have HCS := hide hcs2
        clear hrep5 hg5 hnn hcs2 HREP
        obtain ⟨T, pv, hzv⟩ : ∃ T pv, lastV b'.last = .iface T pv := by cases b'.last <;> exact ⟨_, _, rfl⟩
        have HZ := hide hzv
        simp only [hzv]
        clear hzv
        rw [HN.out] at hcs1
        have hsz5 := hgw5.size
        go_wp2_with (first | (at_builtin; refine wpList_append_own _ rfl _ _ 41 rfl w.heap.size 72 i0 (.agg #[.slice none 0 0, .nilIface]) 2 40 Tryd.underlying41 hi hz0' hz1 hz2 rfl (by decide) _ _ _ rfl (hcs1.alloc _) ⟨_, 0, none⟩ 1 1 [.slice p5 b'.values.length c5, .iface T pv] rfl rfl (cell_two_new _ _ _ _) (fun x hx => by simp at hx; rcases hx with rfl | rfl <;> rfl) (by unfold maxLen; omega) (by omega) (by simp; omega) ?_; intro v' w6 hown' hgrow6 hnil6))
        have hba : Below w5.heap.size w5 (w5.alloc (.cells #[.slice p5 b'.values.length c5, .iface T pv] 72)) := below_al (Below.refl _ _) _
        have hr6 : RdF w6 rb r l5 args := stay_grown (hcs1.alloc _) hgrow6 (stay_alloc hr5) (by decide)
        refine ⟨⟨done ++ [b'], bks', r, l5, ?_, hr6, hl50, hl51, grown_app hgw5 hgrow6 (fun q hq => (hcs1.lt q hq).1), by have := HN.out; simp; omega, stay_grown (hcs1.alloc _) hgrow6 (stay_alloc hn5) (by decide), ?_⟩, ?_⟩
        · rw [← HN.out] at hcs1 hown' hgrow6
          refine RepBlks.snoc (hcs1.alloc _) (fun i h => ?_) (by rw [HZ.out]; exact hown') (HREP5.out.below hba) hgrow6
          obtain ⟨t0, g0, g1, g2⟩ := HCS.out i h
          exact ⟨t0, g0, g1, g2.below hba⟩
        · refine hide ⟨?_, ?_⟩
          · have := H3.out
            rw [← HN.out] at this
            simpa using this
          · rw [← HE.out]; simp
        · rw [hm0.out, restLen_of hr6]; omega
end Go.Proofs.YtdffpkmabehfbaaDoor
