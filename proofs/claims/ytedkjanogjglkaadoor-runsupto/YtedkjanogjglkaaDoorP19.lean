/-
  Walk: chiselref.Parse.
-/
import Derived.Test.YtedkjanogjglkaaDoorP18
import Derived.Test.YtedkjanogjglkaaDoorP13
import Derived.Deep.AppendLies

namespace Go.Proofs.YtedkjanogjglkaaDoor.D
open Go.RowKit
open Go.Proofs.YtedkjanogjglkaaDoor.Ref (dec)

namespace Ref
open Go.Proofs.YtedkjanogjglkaaDoor.Ref
/-- What comes of it: what there is, and what is still parsed. -/
def fin (args : Int) (acc : List RBlk) (o : Option (List RBlk)) : Option RFunc :=
  match o with
  | none => none
  | some r => match acc ++ r with
    | [] => none
    | b :: t => some ⟨args, b :: t⟩

theorem fin_none (args : Int) (acc : List RBlk) : fin args acc none = none := rfl

theorem fin_snoc (args : Int) (acc : List RBlk) (b : RBlk) (o : Option (List RBlk)) : fin args acc (o.map (b :: ·)) = fin args (acc ++ [b]) o := by
  cases o with
  | none => rfl
  | some r => simp [fin]

theorem parseL_fin (l : List UInt8) (t : List (List UInt8)) (h1 : (words l).length = 2) (h2 : (words l).getD 0 [] = sFn) (h3 : 0 ≤ number ((words l).getD 1 [])) (h4 : number ((words l).getD 1 []) ≤ 4) :
    parseL (l :: t) = fin (number ((words l).getD 1 [])) [] (go (number ((words l).getD 1 [])) none 0 t) := by
  unfold parseL fin
  simp only
  rw [if_neg (by rintro (h | h); exact h h1; exact h h2), if_neg (by omega)]
  cases go (number ((words l).getD 1 [])) none 0 t with
  | none => rfl
  | some r => cases r <;> rfl
end Ref

theorem joinL_len (ls : List (List UInt8)) : ls.length ≤ (Ref.joinL ls).length ∧ ∀ l ∈ ls, l.length ≤ (Ref.joinL ls).length := by
  induction ls with
  | nil => exact ⟨Nat.le_refl _, by simp⟩
  | cons a ls ih =>
    have e : (Ref.joinL (a :: ls)).length = a.length + 1 + (Ref.joinL ls).length := by simp [Ref.joinL]; omega
    refine ⟨by rw [e]; simp only [List.length_cons]; omega, fun l hl => ?_⟩
    rw [e]
    rcases List.mem_cons.1 hl with rfl | hl
    · omega
    · have := ih.2 l hl
      omega

theorem cells_at (w : World) (C : List Value) (t : TypeId) (b : Nat) (h : b = w.heap.size) : ∀ j u, C[j]? = some u → (w.alloc (.cells C.toArray t)).cell? ((⟨b, 0, none⟩ : Addr).add j) = some u := by
  subst h; exact cells_new w C t

theorem below_al' (B : Nat) (w : World) (o : Obj) (h : B ≤ w.heap.size) : Below B w (w.alloc o) := (Below.refl B w).alloc h o

theorem below_set' {B : Nat} {a w : World} (h : Below B a w) {b : Nat} (hb : B ≤ b) (o : Nat) (v : Value) : Below B a (w.setCell ⟨b, o, none⟩ v) := h.setCell (p := ⟨b, o, none⟩) hb _

/-- What Parse hands back. -/
def ParsePost (s : ByteArray) (w : World) (e : Ending) (w' : World) : Prop :=
  ((Ref.parse (bl s) = none ∧ e = .returned (.pointer none)) ∨ ∃ f fb, Ref.parse (bl s) = some f ∧ e = .returned (.pointer (some ⟨fb, 0, none⟩)) ∧ w.heap.size ≤ fb ∧ RepFunc w' fb f) ∧ Below w.heap.size w w'

theorem ParsePost.no {s : ByteArray} {w w' : World} (h : Ref.parse (bl s) = none) (hb : Below w.heap.size w w') : ParsePost s w (.returned (.pointer none)) w' := ⟨Or.inl ⟨h, rfl⟩, hb⟩

set_option maxRecDepth 100000 in
set_option maxHeartbeats 8000000 in
theorem parse_any (s : ByteArray) (w : World) (hs : s.size ≤ 16777000) :
    Calls Tryd.prog 20 #[.string s] w (ParsePost s w) := by
  obtain ⟨iv, hiv, hv0, hv1, hv2⟩ := info_parts infoRVal
  obtain ⟨ib, hib, jb0, jb1, jb2⟩ := info_parts infoRBlk
  have hlen := bl_length s
  go_enter Tryd.func20, Tryd.ntmps20
  go_wp2_with fail
  refine (lines_any s w (by omega)).mono ?_
  rintro e w1 ⟨vl, rfl, hown1, hbw1⟩
  obtain ⟨p1, c1, rfl⟩ := own_slice hown1
  cases hok : (Ref.lines (bl s)).2 with
  | false =>
    have HNO : Hid (Ref.parse (bl s) = none) := hide (by unfold Ref.parse; rw [if_pos (Or.inl hok)])
    clear hok
    go_wp2
    go_ret
    exact ParsePost.no HNO.out hbw1
  | true =>
  have HOK := hide hok
  clear hok
  have HOWN := hide hown1
  generalize hls : (Ref.lines (bl s)).1 = ls at *
  have HLS := hide hls
  clear hls hown1
  by_cases hnil : ls = []
  · have HNO : Hid (Ref.parse (bl s) = none) := hide (by
      unfold Ref.parse
      split
      · rfl
      · rw [HLS.out, hnil]; rfl)
    have hz : ((ls.length : Int) == 0) = true := by rw [hnil]; rfl
    clear hnil
    go_wp2
    go_ret
    exact ParsePost.no HNO.out hbw1
  have hne : ((ls.length : Int) == 0) = false := beq_eq_false_iff_ne.2 (by have := List.length_pos_iff.2 hnil; omega)
  have hpos : 0 < ls.length := List.length_pos_iff.2 hnil
  by_cases hbig : 1500 < s.size
  · have HNO : Hid (Ref.parse (bl s) = none) := hide (by unfold Ref.parse; rw [if_pos (Or.inr (by omega))])
    have hb' : (1500 : Int) < (s.size : Int) := by omega
    clear hnil
    go_wp2
    go_ret
    exact ParsePost.no HNO.out hbw1
  have hb' : ¬ (1500 : Int) < (s.size : Int) := by omega
  have hjl : (bl s) = Ref.joinL ls := by rw [← HLS.out]; exact Ref.lines_join HOK.out
  have hjn := joinL_len ls
  rw [← hjl, hlen] at hjn
  obtain ⟨l0, lt, hcons⟩ : ∃ l0 lt, ls = l0 :: lt := by
    cases ls with
    | nil => exact absurd rfl hnil
    | cons a b => exact ⟨a, b, rfl⟩
  have HPA : Hid (Ref.parse (bl s) = Ref.parseL (l0 :: lt)) := hide (by
    unfold Ref.parse
    rw [if_neg (by rintro (h | h); (rw [HOK.out] at h; cases h); omega), HLS.out, hcons])
  have HCONS := hide hcons
  have hl0 : l0.length ≤ 1500 := by have := hjn.2 l0 (by rw [hcons]; exact List.mem_cons_self); omega
  have HLL : Hid (∀ l ∈ ls, l.length ≤ 1500) := hide fun l hl => by have := hjn.2 l hl; omega
  have hn15 : ls.length ≤ 1500 := by omega
  obtain ⟨g, cap, hge, hgb, hgl, hgc⟩ := row_open HOWN.out hpos
  simp only [Value.slice.injEq] at hge
  obtain ⟨rfl, _, rfl⟩ := hge
  have HCL : Hid (∀ w', Below w1.heap.size w1 w' → ∀ j (h : j < ls.length), w'.cell? ⟨g, j, none⟩ = some (.string (bs ls[j]))) := hide fun w' hb j h => bcell' hb g j hgl _ (hgc j _ (strs_get ls j h))
  have hc0 := HCL.out w1 (Below.refl _ _) 0 hpos
  have e0 : ls[0] = l0 := by simp [hcons]
  rw [e0] at hc0
  have hpos' : (0 : Int) < (ls.length : Int) := by omega
  clear hgc hjl hjn hcons hnil hbig HOWN e0
  go_wp2_with fail
  refine (words_any (bs l0) w1 (by rw [bs_size]; omega)).mono ?_
  rw [bl_bs]
  rintro e w2 ⟨vw, rfl, hown2, hb2⟩
  obtain ⟨p2, c2, rfl⟩ := own_slice hown2
  generalize hws : Ref.words l0 = ws at *
  have HWS := hide hws
  have hbw2 : Below w.heap.size w w2 := hbw1.trans (hb2.mono hbw1.size)
  have hwl : ws.length ≤ 1501 := by have := (Ref.words_bound l0).2.1; rw [hws] at this; omega
  have hwm := (Ref.words_bound l0).2.2
  rw [hws] at hwm
  clear hws hc0
  by_cases h2 : ws.length = 2
  case neg =>
    have HNO : Hid (Ref.parse (bl s) = none) := hide (by
      rw [HPA.out]; unfold Ref.parseL; simp only; rw [HWS.out, if_pos (Or.inl h2)])
    have h2' : ((ws.length : Int) != 2) = true := bne_iff_ne.2 (by omega)
    clear h2 hown2 hwm
    go_wp2
    go_ret
    exact ParsePost.no HNO.out hbw2
  obtain ⟨a0, a1, rfl⟩ : ∃ a0 a1, ws = [a0, a1] := by
    match ws, h2 with
    | [a0, a1], _ => exact ⟨a0, a1, rfl⟩
  have hla1 : a1.length ≤ 1500 := by have := hwm a1 (by simp); omega
  obtain ⟨g2, cap2, hge, _, hgl2, hgc2⟩ := row_open hown2 (by show 0 < 2; decide)
  simp only [Value.slice.injEq] at hge
  obtain ⟨rfl, _, rfl⟩ := hge
  have d0 := hgc2 0 _ (strs_get [a0, a1] 0 (by show 0 < 2; decide))
  have d1 := hgc2 1 _ (strs_get [a0, a1] 1 (by show 1 < 2; decide))
  simp only [List.getElem_cons_zero, List.getElem_cons_succ] at d0 d1
  clear hgc2 hown2 hwm hwl h2
  by_cases hf : a0 = Ref.sFn
  case neg =>
    have HNO : Hid (Ref.parse (bl s) = none) := hide (by
      rw [HPA.out]; unfold Ref.parseL; simp only; rw [HWS.out, if_pos (Or.inr (show [a0, a1].getD 0 [] ≠ Ref.sFn from hf))])
    have hf' : ((bs a0).toList == [102, 117, 110, 99]) = false := toList_no (by rw [bl_bs]; exact hf)
    clear hf
    go_wp2
    go_ret
    exact ParsePost.no HNO.out hbw2
  have hf' : ((bs a0).toList == [102, 117, 110, 99]) = true := toList_yes (by rw [bl_bs]; exact hf)
  have HFN := hide hf
  clear hf
  go_wp2_with fail
  refine (number_bs a1 w2 (by omega)).mono ?_
  rintro e w2 ⟨rfl, rfl⟩
  have hnr := Ref.number_range a1
  generalize hna : Ref.number a1 = N at *
  have HNA := hide hna
  clear hna d0 d1
  by_cases hN : N < 0 ∨ 4 < N
  · have HNO : Hid (Ref.parse (bl s) = none) := hide (by
      rw [HPA.out]; unfold Ref.parseL; simp only; rw [HWS.out, if_neg (by rintro (h | h); exact h rfl; exact h HFN.out)]
      simp only [List.getD_cons_succ, List.getD_cons_zero]
      rw [HNA.out, if_pos hN])
    by_cases h1 : N < 0
    · clear hN
      go_wp2
      go_ret
      exact ParsePost.no HNO.out (below_al hbw2 _)
    · have h2 : 4 < N := by omega
      clear hN
      go_wp2
      go_ret
      exact ParsePost.no HNO.out (below_al hbw2 _)
  have h1 : ¬ N < 0 := by omega
  have h2 : ¬ 4 < N := by omega
  have HPF : Hid (Ref.parse (bl s) = Ref.fin N [] (Ref.go N none 0 (ls.drop 1))) := hide (by
    have := Ref.parseL_fin l0 lt (by rw [HWS.out]; rfl) (by rw [HWS.out]; exact HFN.out) (by rw [HWS.out]; show 0 ≤ Ref.number a1; rw [HNA.out]; omega) (by rw [HWS.out]; show Ref.number a1 ≤ 4; rw [HNA.out]; omega)
    rw [HPA.out, this, HWS.out, HCONS.out]
    show Ref.fin (Ref.number a1) [] (Ref.go (Ref.number a1) none 0 lt) = _
    rw [HNA.out]; rfl)
  clear hN HPA HWS HFN HNA
  go_wp2
  generalize hw4 : w2.alloc _ = w4
  have hfb4 : w4.heap[w2.heap.size]? = some (.cells #[.int .i64 N, .slice none 0 0] 52) := by rw [← hw4]; exact heap_alloc_new w2 _
  have hb4 : Below w2.heap.size w2 w4 := by rw [← hw4]; exact below_al (Below.refl _ _) _
  clear hw4
  have hs2 := hb2.size
  have hs1 := hbw1.size
  generalize hfbe : w2.heap.size = fb at *
  go_loopw [7] (fun i wr => ∃ (j : Nat) (blks : List Ref.RBlk) (bv : Value), 1 ≤ j ∧ j ≤ ls.length ∧ i = .int .i64 j ∧ wr.heap[fb]? = some (.cells #[.int .i64 N, bv] 52) ∧ BlksB wr fb bv blks ∧ Below fb w2 wr ∧ blks.length ≤ 8 ∧ Hid (Ref.parse (bl s) = Ref.fin N blks (Ref.go N none blks.length (ls.drop j)))) (fun i _ => ls.length - (intOf i).toNat)
  case atStart => exact ⟨1, [], .slice none 0 0, Nat.le_refl _, hpos, rfl, hfb4, ⟨[], World.ownsRow_nil _ _ _ _, fun i hi => by simp at hi⟩, hb4, by simp, HPF⟩
  case round =>
    obtain ⟨j, blks, bv, hj1, hj, rfl, hfbr, hblk, hbr, hn8, hsp⟩ := hrel
    clear hfb4 hb4 HPF
    have hb1r : Below w1.heap.size w1 wr := hb2.trans (by rw [← hfbe] at hbr; exact hbr.mono hb2.size)
    have hbwr : Below w.heap.size w wr := hbw1.trans (hb1r.mono hbw1.size)
    have hfl := lt_of_block hfbr
    have k1 := blk_cell hfbr 1 _ rfl
    have kz := blk_froz hfbr 1
    have HB := hide hblk
    obtain ⟨pb, cb, rfl⟩ : ∃ pb cb, bv = .slice pb blks.length cb := by obtain ⟨cs, h, _⟩ := hblk; exact own_slice h
    clear hblk
    by_cases hlt : j < ls.length
    · have hcj := HCL.out wr hb1r j hlt
      have HLJ := hide (HLL.out ls[j] (List.getElem_mem hlt))
      have hdrop : ls.drop j = ls[j] :: ls.drop (j + 1) := List.drop_eq_getElem_cons hlt
      have HGO : Hid (Ref.parse (bl s) = Ref.fin N blks (if ls[j] = Ref.headOf blks.length ∧ blks.length ≠ 8 then Ref.go N (some (true, [])) blks.length (ls.drop (j + 1)) else none)) := hide (by rw [hsp.out, hdrop, Ref.go_head])
      clear hsp hdrop
      have hjl : (j : Int) < (ls.length : Int) := by omega
      have e1 : ∀ w', Below wr.heap.size wr w' → w'.cell? ⟨g, j, none⟩ = some (.string (bs ls[j])) := fun w' h => HCL.out w' (hb1r.trans (h.mono hb1r.size)) j hlt
      have e2 : ∀ w', Below wr.heap.size wr w' → w'.cell? ⟨fb, 1, none⟩ = some (.slice pb blks.length cb) := fun w' h => blk_cell ((h.block _ hfl).trans hfbr) 1 _ rfl
      have HD : Hid (∀ w', Below wr.heap.size wr w' → Calls Tryd.prog 36 #[.int .i64 (blks.length : Nat)] w' fun e w'' => e = .returned (.string (bs (Ref.dec blks.length))) ∧ Below wr.heap.size wr w'') := hide fun w' h => by
        refine (digits_nat blks.length w' (by omega)).mono ?_
        rintro e w'' ⟨h1, h2⟩
        exact ⟨h1, h.trans (h2.mono h.size)⟩
      generalize hlj : ls[j] = lj at *
      have hdl : (Ref.dec blks.length).length ≤ 10 := Code.dec_len _ 10 (by decide) (by omega)
      have hds : (bs (Ref.dec blks.length)).size = (Ref.dec blks.length).length := bs_size _
      generalize hdn : bs (Ref.dec blks.length) = dn at *
      have f1 : ¬ 9223372036854775807 < 1 + dn.size := by omega
      have f2 : ¬ 9223372036854775807 < 1 + dn.size + 1 := by omega
      have HDN := hide hdn
      clear hds hdl hdn
      go_wp2_with fail
      have hSS : Below wr.heap.size wr wr.drew := Below.drew (Below.refl _ _)
      refine wp_region_held_drew (S := fun w' => Below wr.heap.size wr w') (by kernel_rfl) hSS (fun hHeld => ?_)
      refine wpAnyH_take (i := 0) (v := .slice (some ⟨g, 0, none⟩) ls.length c1) rfl (by kernel_rfl) (by kernel_rfl) (by kernel_rfl) (fun _ _ _ h => h) (Or.inl ⟨by rfl, fun w' h => by  go_simp⟩) hSS ?_
      try simp only [Act.put, List.getElem_toArray, List.getElem_cons_zero, List.setIfInBounds_toArray, List.set_cons_zero, List.set_cons_succ]
      refine wpAnyH_take (i := 1) (v := .int .i64 (j : Nat)) rfl (by kernel_rfl) (by kernel_rfl) (by kernel_rfl) (fun _ _ _ h => h) (Or.inl ⟨by rfl, fun w' h => by  go_simp⟩) hSS ?_
      try simp only [Act.put, List.getElem_toArray, List.getElem_cons_zero, List.getElem_cons_succ, List.setIfInBounds_toArray, List.set_cons_zero, List.set_cons_succ]
      refine wpAnyH_take (i := 2) (v := .pointer (some ⟨g, j, none⟩)) rfl (by kernel_rfl) (by kernel_rfl) (by kernel_rfl) (fun _ _ _ h => h) (Or.inl ⟨by rfl, fun w' h => by  go_simp⟩) hSS ?_
      try simp only [Act.put, List.getElem_toArray, List.getElem_cons_zero, List.getElem_cons_succ, List.setIfInBounds_toArray, List.set_cons_zero, List.set_cons_succ]
      refine wpAnyH_take (i := 3) (v := .string (bs lj)) rfl (by kernel_rfl) (by kernel_rfl) (by kernel_rfl) (fun _ _ _ h => h) (Or.inl ⟨by rfl, fun w' h => by have h1 := e1 w' h; go_simp⟩) hSS ?_
      try simp only [Act.put, List.getElem_toArray, List.getElem_cons_zero, List.getElem_cons_succ, List.setIfInBounds_toArray, List.set_cons_zero, List.set_cons_succ]
      refine wpAnyH_take (i := 4) (v := .pointer (some ⟨fb, 0, none⟩)) rfl (by kernel_rfl) (by kernel_rfl) (by kernel_rfl) (fun _ _ _ h => h) (Or.inl ⟨by rfl, fun w' h => by  go_simp⟩) hSS ?_
      try simp only [Act.put, List.getElem_toArray, List.getElem_cons_zero, List.getElem_cons_succ, List.setIfInBounds_toArray, List.set_cons_zero, List.set_cons_succ]
      refine wpAnyH_take (i := 5) (v := .pointer (some ⟨fb, 0, none⟩)) rfl (by kernel_rfl) (by kernel_rfl) (by kernel_rfl) (fun _ _ _ h => h) (Or.inl ⟨by rfl, fun w' h => by  go_simp⟩) hSS ?_
      try simp only [Act.put, List.getElem_toArray, List.getElem_cons_zero, List.getElem_cons_succ, List.setIfInBounds_toArray, List.set_cons_zero, List.set_cons_succ]
      refine wpAnyH_take (i := 6) (v := .pointer (some ⟨fb, 1, none⟩)) rfl (by kernel_rfl) (by kernel_rfl) (by kernel_rfl) (fun _ _ _ h => h) (Or.inl ⟨by rfl, fun w' h => by  go_simp⟩) hSS ?_
      try simp only [Act.put, List.getElem_toArray, List.getElem_cons_zero, List.getElem_cons_succ, List.setIfInBounds_toArray, List.set_cons_zero, List.set_cons_succ]
      refine wpAnyH_take (i := 7) (v := .slice pb blks.length cb) rfl (by kernel_rfl) (by kernel_rfl) (by kernel_rfl) (fun _ _ _ h => h) (Or.inl ⟨by rfl, fun w' h => by have h1 := e2 w' h; go_simp⟩) hSS ?_
      try simp only [Act.put, List.getElem_toArray, List.getElem_cons_zero, List.getElem_cons_succ, List.setIfInBounds_toArray, List.set_cons_zero, List.set_cons_succ]
      refine wpAnyH_take (i := 8) (v := .int .i64 (blks.length : Nat)) rfl (by kernel_rfl) (by kernel_rfl) (by kernel_rfl) (fun _ _ _ h => h) (Or.inl ⟨by rfl, fun w' h => by  go_simp⟩) hSS ?_
      try simp only [Act.put, List.getElem_toArray, List.getElem_cons_zero, List.getElem_cons_succ, List.setIfInBounds_toArray, List.set_cons_zero, List.set_cons_succ]
      refine wpAnyH_ready (rs := [9]) (by kernel_rfl) (by simp) ?_
      refine AllReadyH.cons rfl (fun K hK => ?_) AllReadyH.nil
      rw [if_pos (by rfl)]
      go_wp2_with fail
      refine (HD.out _ hSS).mono ?_
      rintro e w5 ⟨rfl, hb5⟩
      refine hK.out _ _ hb5 (fun hHeld => ?_)
      clear hK K
      try simp only [Act.put, List.getElem_toArray, List.getElem_cons_zero, List.getElem_cons_succ, List.setIfInBounds_toArray, List.set_cons_zero, List.set_cons_succ]
      refine wpAnyH_take (i := 10) (v := .string (⟨#[98]⟩ ++ dn)) rfl (by kernel_rfl) (by kernel_rfl) (by kernel_rfl) (fun _ _ _ h => h) (Or.inl ⟨by rfl, fun w' h => by  go_simp⟩) hb5 ?_
      try simp only [Act.put, List.getElem_toArray, List.getElem_cons_zero, List.getElem_cons_succ, List.setIfInBounds_toArray, List.set_cons_zero, List.set_cons_succ]
      refine wpAnyH_take (i := 11) (v := .string (⟨#[98]⟩ ++ dn ++ ⟨#[58]⟩)) rfl (by kernel_rfl) (by kernel_rfl) (by kernel_rfl) (fun _ _ _ h => h) (Or.inl ⟨by rfl, fun w' h => by  go_simp⟩) hb5 ?_
      try simp only [Act.put, List.getElem_toArray, List.getElem_cons_zero, List.getElem_cons_succ, List.setIfInBounds_toArray, List.set_cons_zero, List.set_cons_succ]
      have hsum : (⟨#[98]⟩ ++ dn ++ ⟨#[58]⟩ : ByteArray) = bs (Ref.headOf blks.length) := by
        rw [← HDN.out]
        show bs [98] ++ bs (Ref.dec blks.length) ++ bs [58] = _
        rw [bs_append, bs_append]; rfl
      have HSUM := hide hsum
      clear hsum
      by_cases hh : lj = Ref.headOf blks.length
      case neg =>
        have HNO : Hid (Ref.parse (bl s) = none) := hide (by rw [HGO.out, if_neg (fun h => hh h.1)]; rfl)
        have hq : ((bs lj).toList == (⟨#[98]⟩ ++ dn ++ ⟨#[58]⟩ : ByteArray).toList) = false := by rw [HSUM.out, str_eq]; exact decide_eq_false hh
        have hbw5 : Below w.heap.size w w5 := hbwr.trans (hb5.mono hbwr.size)
        refine wpAnyH_take (i := 12) (v := .bool true) rfl (by kernel_rfl) (by kernel_rfl) (by kernel_rfl) (fun _ _ _ h => h) (Or.inl ⟨by rfl, fun w' h => by  go_simp⟩) hb5 ?_
        try simp only [Act.put, List.getElem_toArray, List.getElem_cons_zero, List.getElem_cons_succ, List.setIfInBounds_toArray, List.set_cons_zero, List.set_cons_succ]
        refine wpAnyH_take (i := 13) (v := .bool true) rfl (by kernel_rfl) (by kernel_rfl) (by kernel_rfl) (fun _ _ _ h => h) (Or.inl ⟨by rfl, fun w' h => by  go_simp⟩) hb5 ?_
        try simp only [Act.put, List.getElem_toArray, List.getElem_cons_zero, List.getElem_cons_succ, List.setIfInBounds_toArray, List.set_cons_zero, List.set_cons_succ]
        refine wpAnyH_take (i := 14) (v := undef) rfl (by kernel_rfl) (by kernel_rfl) (by kernel_rfl) (fun _ _ _ h => h) (Or.inr ⟨by rfl, rfl⟩) hb5 ?_
        try simp only [Act.put, List.getElem_toArray, List.getElem_cons_zero, List.getElem_cons_succ, List.setIfInBounds_toArray, List.set_cons_zero, List.set_cons_succ]
        refine wpAnyH_take (i := 15) (v := undef) rfl (by kernel_rfl) (by kernel_rfl) (by kernel_rfl) (fun _ _ _ h => h) (Or.inr ⟨by rfl, rfl⟩) hb5 ?_
        try simp only [Act.put, List.getElem_toArray, List.getElem_cons_zero, List.getElem_cons_succ, List.setIfInBounds_toArray, List.set_cons_zero, List.set_cons_succ]
        refine wpAnyH_take (i := 16) (v := undef) rfl (by kernel_rfl) (by kernel_rfl) (by kernel_rfl) (fun _ _ _ h => h) (Or.inr ⟨by rfl, rfl⟩) hb5 ?_
        try simp only [Act.put, List.getElem_toArray, List.getElem_cons_zero, List.getElem_cons_succ, List.setIfInBounds_toArray, List.set_cons_zero, List.set_cons_succ]
        refine wpAnyH_take (i := 17) (v := undef) rfl (by kernel_rfl) (by kernel_rfl) (by kernel_rfl) (fun _ _ _ h => h) (Or.inr ⟨by rfl, rfl⟩) hb5 ?_
        try simp only [Act.put, List.getElem_toArray, List.getElem_cons_zero, List.getElem_cons_succ, List.setIfInBounds_toArray, List.set_cons_zero, List.set_cons_succ]
        refine wpAnyH_take (i := 18) (v := undef) rfl (by kernel_rfl) (by kernel_rfl) (by kernel_rfl) (fun _ _ _ h => h) (Or.inr ⟨by rfl, rfl⟩) hb5 ?_
        try simp only [Act.put, List.getElem_toArray, List.getElem_cons_zero, List.getElem_cons_succ, List.setIfInBounds_toArray, List.set_cons_zero, List.set_cons_succ]
        refine wpAnyH_take (i := 19) (v := undef) rfl (by kernel_rfl) (by kernel_rfl) (by kernel_rfl) (fun _ _ _ h => h) (Or.inr ⟨by rfl, rfl⟩) hb5 ?_
        try simp only [Act.put, List.getElem_toArray, List.getElem_cons_zero, List.getElem_cons_succ, List.setIfInBounds_toArray, List.set_cons_zero, List.set_cons_succ]
        refine wpAnyH_take (i := 20) (v := .bool true) rfl (by kernel_rfl) (by kernel_rfl) (by kernel_rfl) (fun _ _ _ h => h) (Or.inl ⟨by rfl, fun w' h => by  go_simp⟩) hb5 ?_
        try simp only [Act.put, List.getElem_toArray, List.getElem_cons_zero, List.getElem_cons_succ, List.setIfInBounds_toArray, List.set_cons_zero, List.set_cons_succ]
        refine wpAnyH_done (by kernel_rfl) ?_ _
        clear hh e1 e2 hcj k1 kz hq
        go_wp2
        go_ret
        exact ParsePost.no HNO.out hbw5
      have hq : ((bs lj).toList == (⟨#[98]⟩ ++ dn ++ ⟨#[58]⟩ : ByteArray).toList) = true := by rw [HSUM.out, str_eq]; exact decide_eq_true hh
      have HH := hide hh
      clear hh
      by_cases h8 : blks.length = 8
      · have HNO : Hid (Ref.parse (bl s) = none) := hide (by rw [HGO.out, if_neg (fun h => h.2 h8)]; rfl)
        have hbw5 : Below w.heap.size w w5 := hbwr.trans (hb5.mono hbwr.size)
        have h8' : ((blks.length : Int) == 8) = true := by rw [h8]; rfl
        clear h8
        refine wpAnyH_take (i := 12) (v := .bool false) rfl (by kernel_rfl) (by kernel_rfl) (by kernel_rfl) (fun _ _ _ h => h) (Or.inl ⟨by rfl, fun w' h => by  go_simp⟩) hb5 ?_
        try simp only [Act.put, List.getElem_toArray, List.getElem_cons_zero, List.getElem_cons_succ, List.setIfInBounds_toArray, List.set_cons_zero, List.set_cons_succ]
        refine wpAnyH_take (i := 13) (v := .bool false) rfl (by kernel_rfl) (by kernel_rfl) (by kernel_rfl) (fun _ _ _ h => h) (Or.inl ⟨by rfl, fun w' h => by  go_simp⟩) hb5 ?_
        try simp only [Act.put, List.getElem_toArray, List.getElem_cons_zero, List.getElem_cons_succ, List.setIfInBounds_toArray, List.set_cons_zero, List.set_cons_succ]
        refine wpAnyH_take (i := 14) (v := .pointer (some ⟨fb, 0, none⟩)) rfl (by kernel_rfl) (by kernel_rfl) (by kernel_rfl) (fun _ _ _ h => h) (Or.inl ⟨by rfl, fun w' h => by  go_simp⟩) hb5 ?_
        try simp only [Act.put, List.getElem_toArray, List.getElem_cons_zero, List.getElem_cons_succ, List.setIfInBounds_toArray, List.set_cons_zero, List.set_cons_succ]
        refine wpAnyH_take (i := 15) (v := .pointer (some ⟨fb, 0, none⟩)) rfl (by kernel_rfl) (by kernel_rfl) (by kernel_rfl) (fun _ _ _ h => h) (Or.inl ⟨by rfl, fun w' h => by  go_simp⟩) hb5 ?_
        try simp only [Act.put, List.getElem_toArray, List.getElem_cons_zero, List.getElem_cons_succ, List.setIfInBounds_toArray, List.set_cons_zero, List.set_cons_succ]
        refine wpAnyH_take (i := 16) (v := .pointer (some ⟨fb, 1, none⟩)) rfl (by kernel_rfl) (by kernel_rfl) (by kernel_rfl) (fun _ _ _ h => h) (Or.inl ⟨by rfl, fun w' h => by  go_simp⟩) hb5 ?_
        try simp only [Act.put, List.getElem_toArray, List.getElem_cons_zero, List.getElem_cons_succ, List.setIfInBounds_toArray, List.set_cons_zero, List.set_cons_succ]
        refine wpAnyH_take (i := 17) (v := .slice pb blks.length cb) rfl (by kernel_rfl) (by kernel_rfl) (by kernel_rfl) (fun _ _ _ h => h) (Or.inl ⟨by rfl, fun w' h => by have h1 := e2 w' h; go_simp⟩) hb5 ?_
        try simp only [Act.put, List.getElem_toArray, List.getElem_cons_zero, List.getElem_cons_succ, List.setIfInBounds_toArray, List.set_cons_zero, List.set_cons_succ]
        refine wpAnyH_take (i := 18) (v := .int .i64 (blks.length : Nat)) rfl (by kernel_rfl) (by kernel_rfl) (by kernel_rfl) (fun _ _ _ h => h) (Or.inl ⟨by rfl, fun w' h => by  go_simp⟩) hb5 ?_
        try simp only [Act.put, List.getElem_toArray, List.getElem_cons_zero, List.getElem_cons_succ, List.setIfInBounds_toArray, List.set_cons_zero, List.set_cons_succ]
        refine wpAnyH_take (i := 19) (v := .bool true) rfl (by kernel_rfl) (by kernel_rfl) (by kernel_rfl) (fun _ _ _ h => h) (Or.inl ⟨by rfl, fun w' h => by  go_simp⟩) hb5 ?_
        try simp only [Act.put, List.getElem_toArray, List.getElem_cons_zero, List.getElem_cons_succ, List.setIfInBounds_toArray, List.set_cons_zero, List.set_cons_succ]
        refine wpAnyH_take (i := 20) (v := .bool true) rfl (by kernel_rfl) (by kernel_rfl) (by kernel_rfl) (fun _ _ _ h => h) (Or.inl ⟨by rfl, fun w' h => by  go_simp⟩) hb5 ?_
        try simp only [Act.put, List.getElem_toArray, List.getElem_cons_zero, List.getElem_cons_succ, List.setIfInBounds_toArray, List.set_cons_zero, List.set_cons_succ]
        refine wpAnyH_done (by kernel_rfl) ?_ _
        clear e1 e2 hcj k1 kz hq
        go_wp2
        go_ret
        exact ParsePost.no HNO.out hbw5
      have h8' : ((blks.length : Int) == 8) = false := beq_eq_false_iff_ne.2 (by omega)
      have HGO2 : Hid (Ref.parse (bl s) = Ref.fin N blks (Ref.go N (some (true, [])) blks.length (ls.drop (j + 1)))) := hide (by rw [HGO.out, if_pos ⟨HH.out, h8⟩])
      refine wpAnyH_take (i := 12) (v := .bool false) rfl (by kernel_rfl) (by kernel_rfl) (by kernel_rfl) (fun _ _ _ h => h) (Or.inl ⟨by rfl, fun w' h => by  go_simp⟩) hb5 ?_
      try simp only [Act.put, List.getElem_toArray, List.getElem_cons_zero, List.getElem_cons_succ, List.setIfInBounds_toArray, List.set_cons_zero, List.set_cons_succ]
      refine wpAnyH_take (i := 13) (v := .bool false) rfl (by kernel_rfl) (by kernel_rfl) (by kernel_rfl) (fun _ _ _ h => h) (Or.inl ⟨by rfl, fun w' h => by  go_simp⟩) hb5 ?_
      try simp only [Act.put, List.getElem_toArray, List.getElem_cons_zero, List.getElem_cons_succ, List.setIfInBounds_toArray, List.set_cons_zero, List.set_cons_succ]
      refine wpAnyH_take (i := 14) (v := .pointer (some ⟨fb, 0, none⟩)) rfl (by kernel_rfl) (by kernel_rfl) (by kernel_rfl) (fun _ _ _ h => h) (Or.inl ⟨by rfl, fun w' h => by  go_simp⟩) hb5 ?_
      try simp only [Act.put, List.getElem_toArray, List.getElem_cons_zero, List.getElem_cons_succ, List.setIfInBounds_toArray, List.set_cons_zero, List.set_cons_succ]
      refine wpAnyH_take (i := 15) (v := .pointer (some ⟨fb, 0, none⟩)) rfl (by kernel_rfl) (by kernel_rfl) (by kernel_rfl) (fun _ _ _ h => h) (Or.inl ⟨by rfl, fun w' h => by  go_simp⟩) hb5 ?_
      try simp only [Act.put, List.getElem_toArray, List.getElem_cons_zero, List.getElem_cons_succ, List.setIfInBounds_toArray, List.set_cons_zero, List.set_cons_succ]
      refine wpAnyH_take (i := 16) (v := .pointer (some ⟨fb, 1, none⟩)) rfl (by kernel_rfl) (by kernel_rfl) (by kernel_rfl) (fun _ _ _ h => h) (Or.inl ⟨by rfl, fun w' h => by  go_simp⟩) hb5 ?_
      try simp only [Act.put, List.getElem_toArray, List.getElem_cons_zero, List.getElem_cons_succ, List.setIfInBounds_toArray, List.set_cons_zero, List.set_cons_succ]
      refine wpAnyH_take (i := 17) (v := .slice pb blks.length cb) rfl (by kernel_rfl) (by kernel_rfl) (by kernel_rfl) (fun _ _ _ h => h) (Or.inl ⟨by rfl, fun w' h => by have h1 := e2 w' h; go_simp⟩) hb5 ?_
      try simp only [Act.put, List.getElem_toArray, List.getElem_cons_zero, List.getElem_cons_succ, List.setIfInBounds_toArray, List.set_cons_zero, List.set_cons_succ]
      refine wpAnyH_take (i := 18) (v := .int .i64 (blks.length : Nat)) rfl (by kernel_rfl) (by kernel_rfl) (by kernel_rfl) (fun _ _ _ h => h) (Or.inl ⟨by rfl, fun w' h => by  go_simp⟩) hb5 ?_
      try simp only [Act.put, List.getElem_toArray, List.getElem_cons_zero, List.getElem_cons_succ, List.setIfInBounds_toArray, List.set_cons_zero, List.set_cons_succ]
      refine wpAnyH_take (i := 19) (v := .bool false) rfl (by kernel_rfl) (by kernel_rfl) (by kernel_rfl) (fun _ _ _ h => h) (Or.inl ⟨by rfl, fun w' h => by  go_simp⟩) hb5 ?_
      try simp only [Act.put, List.getElem_toArray, List.getElem_cons_zero, List.getElem_cons_succ, List.setIfInBounds_toArray, List.set_cons_zero, List.set_cons_succ]
      refine wpAnyH_take (i := 20) (v := .bool false) rfl (by kernel_rfl) (by kernel_rfl) (by kernel_rfl) (fun _ _ _ h => h) (Or.inl ⟨by rfl, fun w' h => by  go_simp⟩) hb5 ?_
      try simp only [Act.put, List.getElem_toArray, List.getElem_cons_zero, List.getElem_cons_succ, List.setIfInBounds_toArray, List.set_cons_zero, List.set_cons_succ]
      refine wpAnyH_done (by kernel_rfl) ?_ _
      have hfb5 := (hb5.block _ hfl).trans hfbr
      have HB5 := hide (HB.out.below hb5)
      have hbr5 : Below fb w2 w5 := hbr.trans (hb5.mono (by rw [← hfbe] at hbr ⊢; exact hbr.size))
      clear HH e1 e2 hcj k1 kz hq HGO HSUM HDN HD f1 f2 h8' hb5 hfbr HB hbr hb1r hbwr hSS
      go_wp2_with fail
      have hn7 : blks.length < 8 := by omega
      clear h8 hfl
      have hz5 : fb < w5.heap.size := lt_of_block hfb5
      go_loopw [7, 8, 9, 10] (fun i v ph dn ws =>
          (∃ (k : Nat) (acc : List Ref.RVal) (phis : Bool) (pv : Option Addr) (cv : Nat), i = .int .i64 k ∧ v = .slice pv acc.length cv ∧ j + 1 ≤ k ∧ k ≤ ls.length ∧ acc.length ≤ k ∧ ph = .bool phis ∧ dn = .bool false ∧ ValsB ws w5.heap.size (.slice pv acc.length cv) acc ∧ Below w5.heap.size w5 ws ∧
            Hid (Ref.parse (bl s) = Ref.fin N blks (Ref.go N (some (phis, acc)) blks.length (ls.drop k)))) ∨
          (∃ (k : Nat) (b : Ref.RBlk) (bv : Value), i = .int .i64 k ∧ j + 1 < k ∧ k ≤ ls.length ∧ dn = .bool true ∧ ws.heap[fb]? = some (.cells #[.int .i64 N, bv] 52) ∧ BlksB ws fb bv (blks ++ [b]) ∧ Below fb w2 ws ∧
            Hid (Ref.parse (bl s) = Ref.fin N (blks ++ [b]) (Ref.go N none (blks.length + 1) (ls.drop k))))) (fun i _ _ _ _ => ls.length - (intOf i).toNat)
      case atStart => exact Or.inl ⟨j + 1, [], true, none, 0, by go_num, rfl, Nat.le_refl _, hlt, by simp, rfl, rfl, ⟨[], World.ownsRow_nil _ _ _ _, fun i hi => by simp at hi⟩, Below.refl _ _, HGO2⟩
      case round =>
        clear HGO2
        rcases hrel with ⟨k, acc, phis, pv, cv, rfl, rfl, hk1, hk2, hal, rfl, rfl, hval, hbz, hsp⟩ | ⟨k, b, bv, rfl, hk1, hk2, rfl, hfbk, hblk, hbk, hsp⟩
        · have hfbz := (hbz.block _ hz5).trans hfb5
          have hbr6 : Below fb w2 wr := hbr5.trans (hbz.mono (by omega))
          have hb1r : Below w1.heap.size w1 wr := hb2.trans (by rw [← hfbe] at hbr6; exact hbr6.mono hb2.size)
          have hbwr : Below w.heap.size w wr := hbw1.trans (hb1r.mono hbw1.size)
          have hzz := hbz.size
          by_cases hkt : k < ls.length
          · have hck := HCL.out wr hb1r k hkt
            have hlk := HLL.out ls[k] (List.getElem_mem hkt)
            have hdrop : ls.drop k = ls[k] :: ls.drop (k + 1) := List.drop_eq_getElem_cons hkt
            have HGO : Hid (Ref.parse (bl s) = Ref.fin N blks (if (Ref.value N phis ls[k]).2 = true then Ref.go N (some (Ref.isPhiB (Ref.value N phis ls[k]).1, acc ++ [(Ref.value N phis ls[k]).1])) blks.length (ls.drop (k + 1))
                else if (Ref.last ls[k]).2 = true then (Ref.go N none (blks.length + 1) (ls.drop (k + 1))).map (Ref.mkBlk acc (Ref.last ls[k]).1 :: ·) else none)) := hide (by rw [hsp.out, hdrop, Ref.go_line])
            clear hsp hdrop
            have hkl : (k : Int) < (ls.length : Int) := by omega
            generalize ls[k] = lk at *
            have c0 := blk_cell hfbz 0 _ rfl
            have hva := value_any (bs lk) phis fb N wr (by rw [bs_size]; omega) (by omega) c0
            rw [bl_bs] at hva
            have hla := fun w' => last_any (bs lk) w' (by rw [bs_size]; omega)
            rw [bl_bs] at hla
            generalize Ref.value N phis lk = vx at *
            generalize Ref.last lk = lx at *
            obtain ⟨x, okv⟩ := vx
            obtain ⟨z, okl⟩ := lx
            simp only at HGO
            have HVA := hide hva
            have HLA := hide hla
            have HVAL := hide hval
            clear hva hla
            clear hval c0
            go_wp2_with fail
            refine HVA.out.mono ?_
            rintro e w6 ⟨a, rfl, hav, hb6⟩
            obtain ⟨pa, ca, rfl⟩ := own_slice hav
            have HAV := hide hav
            have hz6 := hb6.size
            clear hav HVA
            unfold valCells
            cases okv with
            | true =>
              have HN : Hid (Ref.parse (bl s) = Ref.fin N blks (Ref.go N (some (Ref.isPhiB x, acc ++ [x])) blks.length (ls.drop (k + 1)))) := hide (by rw [HGO.out, if_pos rfl])
              have hqq : ((bs x.Op).toList == [112, 104, 105]) = Ref.isPhiB x := by
                by_cases h : x.Op = Ref.sPhi
                · rw [toList_yes (by rw [bl_bs]; exact h)]; exact (decide_eq_true h).symm
                · rw [toList_no (by rw [bl_bs]; exact h)]; exact (decide_eq_false h).symm
              obtain ⟨cs, hcs6, hel6⟩ := HVAL.out.below hb6
              have HEL := hide hel6
              generalize Ref.isPhiB x = bp at *
              clear hel6 HGO HLA HVAL hck
              go_wp2_with (first | (at_builtin; refine wpList_append_own _ rfl _ _ 53 rfl w5.heap.size 58 iv (.agg #[.int .i64 0, .string ByteArray.empty, .int .i64 0, .slice none 0 0]) 4 56 Tryd.underlying53 hiv hv0 hv1 hv2 rfl (by decide) _ _ _ rfl ((hcs6.alloc _).alloc _) ⟨_, 0, none⟩ 1 1 [.int .i64 x.V, .string (bs x.Op), .int .i64 x.N, .slice pa x.Args.length ca] rfl rfl (cells_at _ _ _ _ (by simp)) (fun x hx => by simp at hx; rcases hx with rfl | rfl | rfl | rfl <;> rfl) (by unfold maxLen; omega) (by omega) (by simp; omega) ?_; intro v' w7 hown7 hgrow7 hnil7))
              obtain ⟨pv', cv', rfl⟩ := own_slice hown7
              have hb7 : Below w5.heap.size w5 w7 := hbz.trans (hb6.mono hzz |>.trans (Below.trans (below_al' w5.heap.size _ _ (by omega)) (Below.trans (below_al' w5.heap.size _ _ (by simp; omega)) ⟨hgrow7.os, hgrow7.tape, hgrow7.output, hgrow7.size, fun k hk => hgrow7.block k (by simp; omega) (fun e => by have := (hcs6.lt k e.symm).1; omega)⟩)))
              refine ⟨Or.inl ⟨k + 1, acc ++ [x], bp, pv', cv', by go_num, by simp, by omega, by omega, by simp; omega, rfl, rfl, ?_, hb7, HN⟩, by simp [intOf]; omega⟩
              have := ValsB.snoc (y := x) ((hcs6.alloc _).alloc _) (fun i hi => by
                obtain ⟨a', g0, g1, g2, g3, g4⟩ := HEL.out i hi
                exact ⟨a', g0, g1, g2, g3, (g4.alloc _).alloc _⟩) hown7 (((own_base HAV.out hzz).alloc _).alloc _) hgrow7
              simpa using this
            | false =>
              have HN0 : Hid (okl = false → Ref.parse (bl s) = none) := hide fun h => by rw [HGO.out, if_neg (by simp), h, if_neg (by simp)]; rfl
              have HN1 : Hid (okl = true → Ref.parse (bl s) = Ref.fin N (blks ++ [Ref.mkBlk acc z]) (Ref.go N none (blks.length + 1) (ls.drop (k + 1)))) := hide fun h => by rw [HGO.out, if_neg (by simp), h, if_pos rfl, Ref.fin_snoc]
              clear HGO HAV
              have hb6' : Below w5.heap.size w5 w6 := hbz.trans (hb6.mono hzz)
              have hgl1 := hb1r.size
              have hck6 := bcell' hb6 g k (by omega) _ hck
              have hgl6 : g < w6.heap.size := by omega
              clear hck
              go_wp2_with fail
              generalize hw7 : w6.alloc _ = w7
              have hb67 : Below w6.heap.size w6 w7 := by rw [← hw7]; exact below_al (Below.refl _ _) _
              have hb7 : Below w5.heap.size w5 w7 := hb6'.trans (hb67.mono (by omega))
              have HVAL7 := hide ((HVAL.out.below hb6).below hb67)
              clear hw7 hck6 hb67 HVAL
              refine (HLA.out w7).mono ?_
              rintro e w8 ⟨at_, rfl, hat, hb8⟩
              obtain ⟨pt, ct, rfl⟩ := own_slice hat
              have hz8 := hb8.size
              have hz7 := hb7.size
              have hb58 : Below w5.heap.size w5 w8 := hb7.trans (hb8.mono hz7)
              unfold lastCells
              cases okl with
              | false =>
                have HNO := hide (HN0.out rfl)
                clear HN0 HN1 HLA hat
                have hbr8 : Below fb w2 w8 := hbr5.trans (hb58.mono (by omega))
                have hb18 : Below w1.heap.size w1 w8 := hb2.trans (by rw [← hfbe] at hbr8; exact hbr8.mono hb2.size)
                have hbw8 : Below w.heap.size w w8 := hbw1.trans (hb18.mono hbw1.size)
                go_wp2
                go_ret
                exact ParsePost.no HNO.out (below_al hbw8 _)
              | true =>
                have HNEXT := hide (HN1.out rfl)
                have HAT := hide hat
                have HV8 := hide (HVAL7.out.below hb8)
                clear HN0 HN1 HLA hat HVAL7
                go_wp2_with fail
                generalize hw9 : w8.alloc _ = w9
                have hlb0 : w9.heap[w8.heap.size]? = some (.cells #[.slice pv acc.length cv, .string (bs z.Last), .int .i64 z.V, .slice pt z.To.length ct] 55) := by rw [← hw9]; exact heap_alloc_new w8 _
                have hb89 : Below w8.heap.size w8 w9 := by rw [← hw9]; exact below_al (Below.refl _ _) _
                have hb59 : Below w5.heap.size w5 w9 := hb58.trans (hb89.mono (by omega))
                clear hw9
                refine wp_region_held_drew (S := fun w' => w'.heap[w8.heap.size]? = some (.cells #[.slice pv acc.length cv, .string (bs z.Last), .int .i64 z.V, .slice pt z.To.length ct] 55)) (by kernel_rfl) hlb0 (fun hHeld => ?_)
                have hb8d : Below w8.heap.size w8 w9.drew := Below.drew hb89
                have hb5d : Below w5.heap.size w5 w9.drew := Below.drew hb59
                have hlb : w9.drew.heap[w8.heap.size]? = some (.cells #[.slice pv acc.length cv, .string (bs z.Last), .int .i64 z.V, .slice pt z.To.length ct] 55) := hlb0
                generalize w9.drew = wd at hb8d hb5d hlb ⊢
                have hfb9 := (hb5d.block _ hz5).trans hfb5
                have hbrd : Below fb w2 wd := hbr5.trans (hb5d.mono (by omega))
                obtain ⟨csB, hcsB0, helB⟩ := HB5.out.below hb5d
                have HEL := hide helB
                have hcsB := hcsB0
                have HVB : Hid (ValsB wd fb (.slice pv acc.length cv) acc) := hide ((HV8.out.below hb8d).mono (fun _ _ _ h => own_base h (by omega)) (fun _ _ _ h => own_base h (by omega)))
                have HTO : Hid (wd.ownsRow fb 3 1 (.slice pt z.To.length ct) z.To.length (ints z.To)) := hide (own_below (own_base HAT.out (by omega)) hb8d)
                have hrowlt : ∀ q, (Value.slice pb blks.length cb).ownBlock = some q → q < w5.heap.size := fun q hq => by
                  obtain ⟨cs', h', _⟩ := HB5.out
                  exact (h'.lt q hq).2
                generalize hlbe : w8.heap.size = lb at *
                have hlbne : some lb ≠ (Value.slice pb blks.length cb).ownBlock := fun e => by have := hrowlt lb e.symm; omega
                have hlblt := lt_of_block hlb
                have hfblt := lt_of_block hfb9
                have q0 := blk_cell hfb9 1 _ rfl
                clear helB hcsB0 hb59 hb89 hlb0 hHeld hrowlt
                refine wpAnyH_take (i := 0) (v := .pointer (some ⟨fb, 0, none⟩)) rfl (by kernel_rfl) (by kernel_rfl) (by kernel_rfl) (fun _ _ _ h => h) (Or.inl ⟨by rfl, fun w' h => by  go_simp⟩) hlb ?_
                try simp only [Act.put, List.getElem_toArray, List.getElem_cons_zero, List.setIfInBounds_toArray, List.set_cons_zero, List.set_cons_succ]
                refine wpAnyH_take (i := 1) (v := .pointer (some ⟨fb, 0, none⟩)) rfl (by kernel_rfl) (by kernel_rfl) (by kernel_rfl) (fun _ _ _ h => h) (Or.inl ⟨by rfl, fun w' h => by  go_simp⟩) hlb ?_
                try simp only [Act.put, List.getElem_toArray, List.getElem_cons_zero, List.getElem_cons_succ, List.setIfInBounds_toArray, List.set_cons_zero, List.set_cons_succ]
                refine wpAnyH_take (i := 2) (v := .pointer (some ⟨fb, 0, none⟩)) rfl (by kernel_rfl) (by kernel_rfl) (by kernel_rfl) (fun _ _ _ h => h) (Or.inl ⟨by rfl, fun w' h => by  go_simp⟩) hlb ?_
                try simp only [Act.put, List.getElem_toArray, List.getElem_cons_zero, List.getElem_cons_succ, List.setIfInBounds_toArray, List.set_cons_zero, List.set_cons_succ]
                refine wpAnyH_take (i := 3) (v := .pointer (some ⟨fb, 1, none⟩)) rfl (by kernel_rfl) (by kernel_rfl) (by kernel_rfl) (fun _ _ _ h => h) (Or.inl ⟨by rfl, fun w' h => by  go_simp⟩) hlb ?_
                try simp only [Act.put, List.getElem_toArray, List.getElem_cons_zero, List.getElem_cons_succ, List.setIfInBounds_toArray, List.set_cons_zero, List.set_cons_succ]
                refine wpAnyH_take (i := 5) (v := .agg #[.slice pv acc.length cv, .string (bs z.Last), .int .i64 z.V, .slice pt z.To.length ct]) rfl (by kernel_rfl) (by kernel_rfl) (by kernel_rfl) (fun _ _ _ h => h) (Or.inl ⟨by rfl, fun w' h => by have r0 := blk_cell h 0 _ rfl; have r1 := blk_cell h 1 _ rfl; have r2 := blk_cell h 2 _ rfl; have r3 := blk_cell h 3 _ rfl; go_simp⟩) hlb ?_
                try simp only [Act.put, List.getElem_toArray, List.getElem_cons_zero, List.getElem_cons_succ, List.setIfInBounds_toArray, List.set_cons_zero, List.set_cons_succ]
                refine wpAnyH_ready (rs := [4, 6]) (by kernel_rfl) (by simp) ?_
                refine AllReadyH.cons rfl (fun K hK => ?_) (AllReadyH.cons rfl (fun K hK => ?_) AllReadyH.nil)
                case refine_1 =>
                  rw [if_pos (by rfl)]
                  go_wp2_with fail
                  refine hK.out _ _ hlb (fun hHeld => ?_)
                  clear hK K
                  try simp only [Act.put, List.getElem_toArray, List.getElem_cons_zero, List.getElem_cons_succ, List.setIfInBounds_toArray, List.set_cons_zero, List.set_cons_succ]
                  clear q0
                  refine wpAnyH_ready (rs := [6]) (by kernel_rfl) (by simp) ?_
                  refine AllReadyH.cons rfl (fun K hK => ?_) AllReadyH.nil
                  rw [if_pos (by rfl)]
                  go_wp2_with fail
                  refine hK.out _ _ (stay_alloc hlb) (fun hHeld => ?_)
                  clear hK K
                  try simp only [Act.put, List.getElem_toArray, List.getElem_cons_zero, List.getElem_cons_succ, List.setIfInBounds_toArray, List.set_cons_zero, List.set_cons_succ]
                  refine wpAnyH_ready (rs := [7]) (by kernel_rfl) (by simp) ?_
                  refine AllReadyH.cons rfl (fun K hK => ?_) AllReadyH.nil
                  rw [if_pos (by rfl)]
                  refine wp_append_lies _ _ _ 50 rfl fb 55 ib (.agg #[.slice none 0 0, .string ByteArray.empty, .int .i64 0, .slice none 0 0]) 4 72 Tryd.underlying50 hib jb0 jb1 jb2 rfl (by decide) _ _ _ rfl (hcsB.alloc _) ⟨_, 0, none⟩ 1 1 [.slice pv acc.length cv, .string (bs z.Last), .int .i64 z.V, .slice pt z.To.length ct] rfl rfl (cells_at _ _ _ _ (by simp)) (fun x hx => by simp at hx; rcases hx with rfl | rfl | rfl | rfl <;> rfl) (by decide) (by unfold maxLen; omega) (by omega) (by simp; omega) _ rfl ?_
                  intro gw cw w10 hown10 hgrow10 _ _
                  have hlb10 : w10.heap[lb]? = some (.cells #[.slice pv acc.length cv, .string (bs z.Last), .int .i64 z.V, .slice pt z.To.length ct] 55) := (hgrow10.block lb (by simp; omega) (fun e => hlbne e)).trans (stay_alloc hlb)
                  have hfb10 : w10.heap[fb]? = some (.cells #[.int .i64 N, .slice pb blks.length cb] 52) := stay_grown (hcsB.alloc _) hgrow10 (stay_alloc hfb9) (by decide)
                  have HBN : Hid (BlksB w10 fb (.slice (some ⟨gw, 0, none⟩) (blks.length + 1) cw) (blks ++ [Ref.mkBlk acc z])) := hide (BlksB.snoc (y := Ref.mkBlk acc z) (hcsB.alloc _) (fun i hi => by
                    obtain ⟨vs, to, g0, g1, g2, g3, g4, g5⟩ := HEL.out i hi
                    exact ⟨vs, to, g0, g1, g2, g3, g4.below (below_al (Below.refl _ _) _), g5.alloc _⟩) hown10 (HVB.out.below (below_al (Below.refl _ _) _)) (HTO.out.alloc _) hgrow10)
                  refine hK.out _ _ hlb10 (fun hHeld => ?_)
                  clear hK K
                  try simp only [Act.put, List.getElem_toArray, List.getElem_cons_zero, List.getElem_cons_succ, List.setIfInBounds_toArray, List.set_cons_zero, List.set_cons_succ]
                  refine wpAnyH_take (i := 8) (v := .pointer (some ⟨fb, 0, none⟩)) rfl (by kernel_rfl) (by kernel_rfl) (by kernel_rfl) (fun _ _ _ h => h) (Or.inl ⟨by rfl, fun w' h => by  go_simp⟩) hlb10 ?_
                  try simp only [Act.put, List.getElem_toArray, List.getElem_cons_zero, List.getElem_cons_succ, List.setIfInBounds_toArray, List.set_cons_zero, List.set_cons_succ]
                  refine wpAnyH_take (i := 9) (v := .pointer (some ⟨fb, 1, none⟩)) rfl (by kernel_rfl) (by kernel_rfl) (by kernel_rfl) (fun _ _ _ h => h) (Or.inl ⟨by rfl, fun w' h => by  go_simp⟩) hlb10 ?_
                  try simp only [Act.put, List.getElem_toArray, List.getElem_cons_zero, List.getElem_cons_succ, List.setIfInBounds_toArray, List.set_cons_zero, List.set_cons_succ]
                  have q1 := blk_cell hfb10 1 _ rfl
                  have q2 := blk_froz hfb10 1
                  refine wpAnyH_ready (rs := [10]) (by kernel_rfl) (by simp) ?_
                  refine AllReadyH.cons rfl (fun K hK => ?_) AllReadyH.nil
                  rw [if_pos (by rfl)]
                  go_wp2_with fail
                  refine hK.out _ _ (stay_set hlb10 (by simp; omega)) (fun hHeld => ?_)
                  clear hK K
                  try simp only [Act.put, List.getElem_toArray, List.getElem_cons_zero, List.getElem_cons_succ, List.setIfInBounds_toArray, List.set_cons_zero, List.set_cons_succ]
                  refine wpAnyH_done (by kernel_rfl) ?_ _
                  have hb10 : Below fb w2 w10 := hbrd.trans (Below.trans (below_al' fb wd _ (by omega)) ⟨hgrow10.os, hgrow10.tape, hgrow10.output, hgrow10.size, fun k hk => hgrow10.block k (by simp; omega) (fun e => by have := (hcsB.lt k e.symm).1; omega)⟩)
                  clear q1 q2 hlb10 hown10 hgrow10
                  go_wp2
                  refine ⟨Or.inr ⟨k + 1, Ref.mkBlk acc z, .slice (some ⟨gw, 0, none⟩) (blks.length + 1) cw, by go_num, by omega, by omega, rfl, set_block hfb10, ?_, below_set' hb10 (Nat.le_refl _) _ _, HNEXT⟩, by simp [intOf]; omega⟩
                  exact HBN.out.mono (fun _ _ _ h => own_set h hfb10 (by decide)) (fun _ _ _ h => own_set h hfb10 (by decide)) (fun _ _ _ h => own_set h hfb10 (by decide))
                case refine_2 =>
                  rw [if_pos (by rfl)]
                  go_wp2_with fail
                  refine hK.out _ _ (stay_alloc hlb) (fun hHeld => ?_)
                  clear hK K
                  try simp only [Act.put, List.getElem_toArray, List.getElem_cons_zero, List.getElem_cons_succ, List.setIfInBounds_toArray, List.set_cons_zero, List.set_cons_succ]
                  refine wpAnyH_ready (rs := [4]) (by kernel_rfl) (by simp) ?_
                  refine AllReadyH.cons rfl (fun K hK => ?_) AllReadyH.nil
                  rw [if_pos (by rfl)]
                  go_wp2_with fail
                  refine hK.out _ _ (stay_alloc hlb) (fun hHeld => ?_)
                  clear hK K
                  try simp only [Act.put, List.getElem_toArray, List.getElem_cons_zero, List.getElem_cons_succ, List.setIfInBounds_toArray, List.set_cons_zero, List.set_cons_succ]
                  clear q0
                  refine wpAnyH_ready (rs := [7]) (by kernel_rfl) (by simp) ?_
                  refine AllReadyH.cons rfl (fun K hK => ?_) AllReadyH.nil
                  rw [if_pos (by rfl)]
                  refine wp_append_lies _ _ _ 50 rfl fb 55 ib (.agg #[.slice none 0 0, .string ByteArray.empty, .int .i64 0, .slice none 0 0]) 4 72 Tryd.underlying50 hib jb0 jb1 jb2 rfl (by decide) _ _ _ rfl (hcsB.alloc _) ⟨_, 0, none⟩ 1 1 [.slice pv acc.length cv, .string (bs z.Last), .int .i64 z.V, .slice pt z.To.length ct] rfl rfl (cells_at _ _ _ _ (by simp)) (fun x hx => by simp at hx; rcases hx with rfl | rfl | rfl | rfl <;> rfl) (by decide) (by unfold maxLen; omega) (by omega) (by simp; omega) _ rfl ?_
                  intro gw cw w10 hown10 hgrow10 _ _
                  have hlb10 : w10.heap[lb]? = some (.cells #[.slice pv acc.length cv, .string (bs z.Last), .int .i64 z.V, .slice pt z.To.length ct] 55) := (hgrow10.block lb (by simp; omega) (fun e => hlbne e)).trans (stay_alloc hlb)
                  have hfb10 : w10.heap[fb]? = some (.cells #[.int .i64 N, .slice pb blks.length cb] 52) := stay_grown (hcsB.alloc _) hgrow10 (stay_alloc hfb9) (by decide)
                  have HBN : Hid (BlksB w10 fb (.slice (some ⟨gw, 0, none⟩) (blks.length + 1) cw) (blks ++ [Ref.mkBlk acc z])) := hide (BlksB.snoc (y := Ref.mkBlk acc z) (hcsB.alloc _) (fun i hi => by
                    obtain ⟨vs, to, g0, g1, g2, g3, g4, g5⟩ := HEL.out i hi
                    exact ⟨vs, to, g0, g1, g2, g3, g4.below (below_al (Below.refl _ _) _), g5.alloc _⟩) hown10 (HVB.out.below (below_al (Below.refl _ _) _)) (HTO.out.alloc _) hgrow10)
                  refine hK.out _ _ hlb10 (fun hHeld => ?_)
                  clear hK K
                  try simp only [Act.put, List.getElem_toArray, List.getElem_cons_zero, List.getElem_cons_succ, List.setIfInBounds_toArray, List.set_cons_zero, List.set_cons_succ]
                  refine wpAnyH_take (i := 8) (v := .pointer (some ⟨fb, 0, none⟩)) rfl (by kernel_rfl) (by kernel_rfl) (by kernel_rfl) (fun _ _ _ h => h) (Or.inl ⟨by rfl, fun w' h => by  go_simp⟩) hlb10 ?_
                  try simp only [Act.put, List.getElem_toArray, List.getElem_cons_zero, List.getElem_cons_succ, List.setIfInBounds_toArray, List.set_cons_zero, List.set_cons_succ]
                  refine wpAnyH_take (i := 9) (v := .pointer (some ⟨fb, 1, none⟩)) rfl (by kernel_rfl) (by kernel_rfl) (by kernel_rfl) (fun _ _ _ h => h) (Or.inl ⟨by rfl, fun w' h => by  go_simp⟩) hlb10 ?_
                  try simp only [Act.put, List.getElem_toArray, List.getElem_cons_zero, List.getElem_cons_succ, List.setIfInBounds_toArray, List.set_cons_zero, List.set_cons_succ]
                  have q1 := blk_cell hfb10 1 _ rfl
                  have q2 := blk_froz hfb10 1
                  refine wpAnyH_ready (rs := [10]) (by kernel_rfl) (by simp) ?_
                  refine AllReadyH.cons rfl (fun K hK => ?_) AllReadyH.nil
                  rw [if_pos (by rfl)]
                  go_wp2_with fail
                  refine hK.out _ _ (stay_set hlb10 (by simp; omega)) (fun hHeld => ?_)
                  clear hK K
                  try simp only [Act.put, List.getElem_toArray, List.getElem_cons_zero, List.getElem_cons_succ, List.setIfInBounds_toArray, List.set_cons_zero, List.set_cons_succ]
                  refine wpAnyH_done (by kernel_rfl) ?_ _
                  have hb10 : Below fb w2 w10 := hbrd.trans (Below.trans (below_al' fb wd _ (by omega)) ⟨hgrow10.os, hgrow10.tape, hgrow10.output, hgrow10.size, fun k hk => hgrow10.block k (by simp; omega) (fun e => by have := (hcsB.lt k e.symm).1; omega)⟩)
                  clear q1 q2 hlb10 hown10 hgrow10
                  go_wp2
                  refine ⟨Or.inr ⟨k + 1, Ref.mkBlk acc z, .slice (some ⟨gw, 0, none⟩) (blks.length + 1) cw, by go_num, by omega, by omega, rfl, set_block hfb10, ?_, below_set' hb10 (Nat.le_refl _) _ _, HNEXT⟩, by simp [intOf]; omega⟩
                  exact HBN.out.mono (fun _ _ _ h => own_set h hfb10 (by decide)) (fun _ _ _ h => own_set h hfb10 (by decide)) (fun _ _ _ h => own_set h hfb10 (by decide))
          · have HNO : Hid (Ref.parse (bl s) = none) := hide (by rw [hsp.out, List.drop_of_length_le (by omega)]; rfl)
            clear hsp
            have hkl : ¬ (k : Int) < (ls.length : Int) := by omega
            go_wp2
            go_ret
            exact ParsePost.no HNO.out hbwr
        · have hkl : (k : Int) ≤ (ls.length : Int) := by omega
          have HN : Hid (Ref.parse (bl s) = Ref.fin N (blks ++ [b]) (Ref.go N none (blks ++ [b]).length (ls.drop k))) := by
            rw [List.length_append]; exact hsp
          clear hsp
          by_cases hkt : (k : Int) < (ls.length : Int)
          · go_wp2
            exact ⟨⟨k, blks ++ [b], bv, by omega, by omega, rfl, hfbk, hblk, hbk, by simp; omega, HN⟩, by simp [intOf]; omega⟩
          · go_wp2
            exact ⟨⟨k, blks ++ [b], bv, by omega, by omega, rfl, hfbk, hblk, hbk, by simp; omega, HN⟩, by simp [intOf]; omega⟩
    · have HN : Hid (Ref.parse (bl s) = Ref.fin N blks (some [])) := hide (by rw [hsp.out, List.drop_of_length_le (by omega)]; rfl)
      clear hsp
      have hjl : ¬ (j : Int) < (ls.length : Int) := by omega
      by_cases he : blks = []
      · have HNO : Hid (Ref.parse (bl s) = none) := hide (by rw [HN.out, he]; rfl)
        have he' : ((blks.length : Int) == 0) = true := by rw [he]; rfl
        clear he
        go_wp2
        go_ret
        exact ParsePost.no HNO.out hbwr
      · have HY : Hid (Ref.parse (bl s) = some ⟨N, blks⟩) := hide (by
          rw [HN.out]
          unfold Ref.fin
          cases blks with
          | nil => exact absurd rfl he
          | cons b t => simp)
        have he' : ((blks.length : Int) == 0) = false := beq_eq_false_iff_ne.2 (by have := List.length_pos_iff.2 he; omega)
        clear he
        go_wp2
        go_ret
        exact ⟨Or.inr ⟨⟨N, blks⟩, fb, HY.out, rfl, by omega, _, hfbr, HB.out.rep⟩, hbwr⟩
end Go.Proofs.YtedkjanogjglkaaDoor.D
