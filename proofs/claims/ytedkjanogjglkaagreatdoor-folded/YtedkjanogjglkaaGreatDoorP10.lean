/-
  Parts of the proof: ROper, RefRepB, RefParse, RBind, RFind, RAtom, ROperP, RDeep.
-/
import Derived.Test.YtedkjanogjglkaaGreatDoorP09
import Derived.Test.YtedkjanogjglkaaGreatDoorP01
import Derived.Deep.RegionHeld3
import Derived.BigRegion
import Derived.Test.YtedkjanogjglkaaGreatDoorP07
import Derived.Deep.AppendLies
set_option maxRecDepth 100000
set_option maxHeartbeats 4000000
namespace Go.Proofs.YtedkjanogjglkaaGreatDoor
open Go.RowKit
open Go.Proofs.YtedkjanogjglkaaGreatDoor.Code (RTree Nm RSt Prs)
theorem take_rdr (rb B : Nat) (s p : List UInt8) (l : Int) (st : RSt) (w : World) (hr : Rdr w rb B s l st) (hs : s.length <= 3000) (hp : p.length <= 3000) :
  Calls Tryz.prog 101 #[.pointer (some ⟨rb, 0, none⟩), .string (bs p)] w fun e w' =>
   (∃ r, Code.cut p s = some r /\ e = .returned (.tuple #[]) /\ Rdr w' rb B r l st /\ w.grownBy w' (some rb)) \/ (Code.cut p s = none /\ FailsK w rb B l 6 e w') := by
 obtain ⟨nv, h1, h2⟩ := hr
 refine (take_at rb _ s p l 6 _ w h1 hs hp).mono ?_
 rintro e w' (⟨r, h3, h4, h5, h6⟩ | ⟨h3, h4⟩)
 ·exact Or.inl ⟨r, h3, h4, Rdr.grown h1 h2 h5 h6, h6⟩
 ·exact Or.inr ⟨h3, h4.kin⟩
theorem skip_rdr (rb B : Nat) (s p : List UInt8) (l : Int) (st : RSt) (w : World) (hr : Rdr w rb B s l st) (hs : s.length <= 3000) (hp : p.length <= 3000) :
  Calls Tryz.prog 148 #[.pointer (some ⟨rb, 0, none⟩), .string (bs p)] w fun e w' =>
   e = .returned (.bool (Code.cut p s).isSome) /\ Rdr w' rb B ((Code.cut p s).getD s) l st /\ w.grownBy w' (some rb) := by
 obtain ⟨nv, h1, h2⟩ := hr
 refine (skip_any rb _ s p l 6 _ w h1 hs hp).mono ?_
 rintro e w' ⟨h3, h4, h5⟩
 exact ⟨h3, Rdr.grown h1 h2 h4 h5, h5⟩
theorem letters_rdr (rb B : Nat) (s : List UInt8) (l : Int) (st : RSt) (w : World) (hr : Rdr w rb B s l st) (hs : s.length <= 3000) :
  Calls Tryz.prog 187 #[.pointer (some ⟨rb, 0, none⟩)] w fun e w' =>
   e = .returned (.string (bs (Code.word s))) /\ Rdr w' rb B (Code.behind s) l st /\ w.grownBy w' (some rb) := by
 obtain ⟨nv, h1, h2⟩ := hr
 refine (letters_any rb _ s l 6 _ w h1 hs).mono ?_
 rintro e w' ⟨h3, h4, h5⟩
 exact ⟨h3, Rdr.grown h1 h2 h4 h5, h5⟩
theorem fail_rdr (rb B : Nat) (s : List UInt8) (l : Int) (st : RSt) (w : World) (hr : Rdr w rb B s l st) :
  Calls Tryz.prog 59 #[.pointer (some ⟨rb, 0, none⟩)] w fun e w' => FailsK w rb B l 6 e w' := by
 obtain ⟨nv, h1, h2⟩ := hr
 refine (fail_at rb _ s l 6 _ w h1).mono ?_
 intro e w' h
 exact h.kin
theorem Rdr.below {w w' : World} {rb B : Nat} {s : List UInt8} {l : Int} {st : RSt} (h : Rdr w rb B s l st) (hb : Below w.heap.size w w') : Rdr w' rb B s l st := by
 obtain ⟨nv, h1, h2⟩ := h
 exact ⟨nv, (hb.block rb (lt_of_block h1)).trans h1, own_below h2 hb⟩
theorem Rdr.rd {w : World} {rb B : Nat} {s : List UInt8} {l : Int} {st : RSt} (h : Rdr w rb B s l st) : ∃ X, Rd w rb 115 s l 6 X := by
 obtain ⟨nv, h1, _⟩ := h
 exact ⟨_, h1⟩
theorem Rdr.set {w : World} {rb B : Nat} {s : List UInt8} {l : Int} {st : RSt} (h : Rdr w rb B s l st) {g o : Nat} {v : Value} {C : Array Value} {T : TypeId} {z : Nat × Nat} (hg : w.heap[g]? = some (.cells C T z)) (h1 : T ≠ 115) (h2 : T ≠ 315) : Rdr (w.setCell ⟨g, o, none⟩ v) rb B s l st := by
 obtain ⟨nv, h3, h4⟩ := h
 refine ⟨nv, stay_set h3 ?_, ?_⟩
 ·rintro rfl
  unfold Rd at h3
  rw [hg] at h3
  simp only [Option.some.injEq, Obj.cells.injEq] at h3
  exact h1 h3.2.1
 ·refine h4.kept (grown_set _ _ _ _) (Or.inr ?_)
  exact fun e => own_ne h4 hg h2 e.symm
theorem RepT.shape {w : World} {base : Nat} {res : Bool} {L : Int -> Nm -> Prop} {v : Value} {t : RTree} (h : RepT w base res L v t) : ∃ T x, v = .iface T x := by
 cases t with
 | name x => obtain ⟨i, rfl, _⟩ := h; exact ⟨_, _, rfl⟩
 | hash x => obtain ⟨i, rfl, _⟩ := h; exact ⟨_, _, rfl⟩
 | num c => obtain ⟨rfl, _⟩ := h; exact ⟨_, _, rfl⟩
 | op k kids => obtain ⟨sv, vs, rfl, _⟩ := h; exact ⟨_, _, rfl⟩
 | fold k kids => obtain ⟨sv, vs, rfl, _⟩ := h; exact ⟨_, _, rfl⟩
def kidRow (w : World) (g : Nat) (T : TypeId) (vs : List Value) (n : Nat) : Prop := w.heap[g]? = some (.cells (vs ++ List.replicate n Value.nilIface).toArray T)
theorem kidRow.set {w : World} {g : Nat} {T : TypeId} {vs : List Value} {n : Nat} (h : kidRow w g T vs (n + 1)) (v : Value) : kidRow (w.setCell ⟨g, vs.length, none⟩ v) g T (vs ++ [v]) n := by
 unfold kidRow
 rw [set_block h]
 congr 1
 simp only [List.setIfInBounds_toArray]
 congr 1
 rw [List.set_append_right _ _ (Nat.le_refl _), Nat.sub_self, List.replicate_succ, List.set_cons_zero]
 simp
theorem kidRow.own {w : World} {g base : Nat} {T : TypeId} {vs : List Value} {n : Nat} (h : kidRow w g T vs 0) (hb : base <= g) (hn : vs.length = n) (hm : n <= 100) : w.ownsRow base T 1 (.slice (some ⟨g, 0, none⟩) n n) vs.length vs := by
 subst hn
 unfold kidRow at h
 simp only [List.replicate_zero, List.append_nil] at h
 exact ⟨by simp, Or.inr ⟨g, vs.length, vs.toArray, rfl, hb, h, Nat.le_refl _, Nat.le_trans hm (by decide), by simp, by simp⟩⟩
end Go.Proofs.YtedkjanogjglkaaGreatDoor
namespace Go.Proofs.YtedkjanogjglkaaGreatDoor.D
open Go.RowKit
theorem cells_new (w : World) (C : List Value) (t : TypeId) : ∀ j u, C[j]? = some u -> (w.alloc (.cells C.toArray t)).cell? ((⟨w.heap.size, 0, none⟩ : Addr).add j) = some u := by
 intro j u hj
 rw [addr_add]
 exact blk_cell (heap_alloc_new w _) j u (by simpa using hj)
open Go.Proofs.YtedkjanogjglkaaGreatDoor.Ref (dec)
namespace Ref
open Go.Proofs.YtedkjanogjglkaaGreatDoor.Ref
end Ref
theorem cells_at (w : World) (C : List Value) (t : TypeId) (b : Nat) (h : b = w.heap.size) : ∀ j u, C[j]? = some u -> (w.alloc (.cells C.toArray t)).cell? ((⟨b, 0, none⟩ : Addr).add j) = some u := by
 subst h; exact cells_new w C t
end Go.Proofs.YtedkjanogjglkaaGreatDoor.D
namespace Go.Proofs.YtedkjanogjglkaaGreatDoor
open Go.RowKit
open Go.Proofs.YtedkjanogjglkaaGreatDoor.Code (RTree Nm RSt Prs)
theorem infoName : (Tryz.prog.info? 315).map (fun i => (i.zero, i.size, i.bytes)) = some (some (.agg #[.string ByteArray.empty, .bool false]), 2, 24) := by kernel_rfl
theorem slotAt_hit {ns : List Nm} {w : List UInt8} {k : Nat} (hk : k < ns.length) (h : ns[k].1 = w) (hb : ∀ j (hj : j < ns.length), j < k -> ns[j].1 ≠ w) : Code.slotAt ns w = some k := by
 unfold Code.slotAt
 rw [List.findIdx?_eq_some_iff_getElem]
 exact ⟨hk, by simpa using h, fun j hj => by simpa using hb j (by omega) hj⟩
theorem slotAt_miss {ns : List Nm} {w : List UInt8} (hb : ∀ j (hj : j < ns.length), ns[j].1 ≠ w) : Code.slotAt ns w = none := by
 unfold Code.slotAt
 rw [List.findIdx?_eq_none_iff]
 intro x hx
 obtain ⟨j, hj, rfl⟩ := List.getElem_of_mem hx
 simpa using hb j hj
def SlotPost (o : Option RSt) (p : Nm) (w : World) (rb B : Nat) (s : List UInt8) (l : Int) (L : RSt -> Int -> Nm -> Prop) (e : Ending) (w' : World) : Prop :=
 (∃ st i, o = some st /\ e = .returned (.int .i64 i) /\ L st i p /\ Rdr w' rb B s l st /\ Kin w w' rb B) \/ (o = none /\ FailsK w rb B l 6 e w')
theorem bind_any (rb B : Nat) (s : List UInt8) (l : Int) (st : RSt) (pw : List UInt8) (ph : Bool) (w : World) (hr : Rdr w rb B s l st) (hn : st.names.length <= 6000) (hBw : B <= w.heap.size) :
  Calls Tryz.prog 189 #[.pointer (some ⟨rb, 0, none⟩), .agg #[.string (bs pw), .bool ph]] w fun e w' => SlotPost (Code.bindS st (pw, ph)) (pw, ph) w rb B s l LP e w' := by
 obtain ⟨ib, hib, jb0, jb1, jb2⟩ := info_parts infoName
 obtain ⟨nv, hrd, hown⟩ := hr
 obtain ⟨np, nc, rfl⟩ := own_slice hown
 have hrlt := lt_of_block hrd
 have HOWN := hide hown
 have HOLT : Hid (∀ q, (Value.slice np st.names.length nc).ownBlock = some q -> q < w.heap.size) := hide (fun q h => (hown.lt q h).2)
 go_enter Tryz.func189, Tryz.ntmps189
 have c3 := hrd.c3
 go_wp2_with fail
 generalize hw0 : w.alloc _ = w0
 have hb0 : Below w.heap.size w w0 := by rw [<- hw0]; exact below_al (Below.refl _ _) _
 have hl0 : w0.heap[w.heap.size]? = some (.cells #[.string (bs pw), .bool ph] 315) := by rw [<- hw0]; exact heap_alloc_new w _
 have hz0 : w0.heap.size = w.heap.size + 1 := by rw [<- hw0]; simp
 clear hw0
 have HNE0 : Hid (∀ j (hj : j < st.names.length), j < 0 -> (st.names[j]).1 ≠ pw) := hide (fun j _ h => by omega)
 go_loopw [12] (fun i wr => ∃ k : Nat, k <= st.names.length /\ i = .int .i64 k /\ Below w0.heap.size w0 wr /\ Hid (∀ j (hj : j < st.names.length), j < k -> (st.names[j]).1 ≠ pw)) (fun i _ => st.names.length - (intOf i).toNat)
 case atStart => exact ⟨0, by omega, rfl, Below.refl _ _, HNE0⟩
 case round =>
  obtain ⟨k, hk, rfl, hbw, hne⟩ := hrel
  clear HNE0
  have hb1 : Below w.heap.size w wr := hb0.trans (hbw.mono (by omega))
  have hl1 : wr.heap[w.heap.size]? = some (.cells #[.string (bs pw), .bool ph] 315) := (hbw.block _ (by omega)).trans hl0
  have hrd1 : Rd wr rb 115 s l 6 [.slice np st.names.length nc, .bool st.unbound] := (hb1.block rb hrlt).trans hrd
  have hown1 := own_below HOWN.out hb1
  have hzr := hbw.size
  clear hl0
  have d0 := blk_cell hl1 0 _ rfl
  have d1 := blk_cell hl1 1 _ rfl
  have hlbw : w.heap.size < wr.heap.size := lt_of_block hl1
  by_cases hlt : k < st.names.length
  ·obtain ⟨g, cap, hge, hBg, hgl, hcell⟩ := row_open hown1 (by omega)
   simp only [Value.slice.injEq] at hge
   obtain ⟨rfl, _, rfl⟩ := hge
   have e0 := hcell _ _ (nmCells_get st.names k hlt).1
   have e1 := hcell _ _ (nmCells_get st.names k hlt).2
   have hcmp := str_eq (st.names[k]).1 pw
   have hkl : (k : Int) < (st.names.length : Int) := by omega
   have hcapn : st.names.length <= nc := own_cap hown1
   have HK1 : Hid (Kin w wr rb B) := Kin.below hb1
   have HRDR : Hid (Rdr wr rb B s l st) := ⟨_, hrd1, hown1⟩
   by_cases heq : (st.names[k]).1 = pw
   ·have HSL : Hid (Code.slotAt st.names pw = some k) := slotAt_hit hlt heq hne.out
    rw [decide_eq_true heq] at hcmp
    have HG : Hid (st.names[k]? = some ((st.names[k]).1, (st.names[k]).2)) := List.getElem?_eq_getElem hlt
    have HEQ := hide heq
    clear hcell hne heq hown1
    by_cases hbe : (st.names[k]).2 = ph
    ·have HB : Hid (Code.bindS st (pw, ph) = some st) := by
      simp only [Hid, Code.bindS, HSL.out, HG.out, Option.map_some, hbe, if_true]
     have HP : Hid (st.names[k]? = some (pw, ph)) := by rw [HG.out, HEQ.out, hbe]; exact rfl
     generalize (st.names[k]).2 = nb at *
     generalize (st.names[k]).1 = nw at *
     subst hbe
     cases nb
     all_goals
      go_wp2
      go_ret
      exact Or.inl ⟨st, k, HB.out, rfl, ⟨k, rfl, HP.out⟩, HRDR.out.below (below_al (Below.refl _ _) _), HK1.out.alloc _⟩
    ·have HB : Hid (Code.bindS st (pw, ph) = none) := by
      simp only [Hid, Code.bindS, HSL.out, HG.out, Option.map_some, Option.some.injEq, if_neg hbe]
     generalize (st.names[k]).2 = nb at *
     generalize (st.names[k]).1 = nw at *
     have hb2 : (nb = true /\ ph = false) \/ (nb = false /\ ph = true) := by cases nb <;> cases ph <;> simp_all
     clear hbe
     rcases hb2 with ⟨rfl, rfl⟩ | ⟨rfl, rfl⟩
     all_goals
      go_wp2_with fail
      refine (fail_rdr rb B s l st _ (HRDR.out.below (below_al (Below.refl _ _) _))).mono ?_
      rintro e w4 ⟨rfl, hk4⟩
      go_wp2
      exact ⟨rfl, Or.inr ⟨HB.out, rfl, (HK1.out.alloc _).trans hk4⟩⟩
   ·have HN : Hid (∀ j (hj : j < st.names.length), j < k + 1 -> (st.names[j]).1 ≠ pw) := hide (fun j hj hjk => by
     by_cases h : j < k
     ·exact hne.out j hj h
     ·have : j = k := by omega
      subst this; exact heq)
    rw [decide_eq_false heq] at hcmp
    clear hcell hne heq hown1
    generalize (st.names[k]).2 = nb at *
    generalize (st.names[k]).1 = nw at *
    go_wp2
    exact ⟨⟨k + 1, by omega, by go_num, below_al hbw _, HN⟩, by simp [intOf]; omega⟩
  ·have hkn : k = st.names.length := by omega
   have HBS : Hid (Code.bindS st (pw, ph) = some ⟨st.names ++ [(pw, ph)], st.unbound⟩) := by
    have := slotAt_miss (ns := st.names) (w := pw) (fun j hj => hne.out j hj (by omega))
    simp only [Hid, Code.bindS, this]
   subst hkn
   clear hne HOWN hown hrd hk
   go_wp2_with fail
   generalize hlbe : w.heap.size = lb at *
   refine wp_region_held_drew (S := fun w' => w'.heap[lb]? = some (.cells #[.string (bs pw), .bool ph] 315)) (by kernel_rfl) hl1 (fun hHeld => ?_)
   have hkd : Kin w wr.drew rb B := (Kin.below (hlbe ▸ hb1)).drewN 1
   have hlb : wr.drew.heap[lb]? = some (.cells #[.string (bs pw), .bool ph] 315) := hl1
   have hrd9 : Rd wr.drew rb 115 s l 6 [.slice np st.names.length nc, .bool st.unbound] := hrd1
   have hcsB : wr.drew.ownsRow B 315 2 (.slice np st.names.length nc) st.names.length (nmCells st.names) := hown1
   have hzd : lb < wr.drew.heap.size := lt_of_block hlb
   generalize wr.drew = wd at hkd hlb hrd9 hcsB hzd ⊢
   have hlbne : some lb ≠ (Value.slice np st.names.length nc).ownBlock := fun e => by
    have := (HOLT.out lb e.symm)
    omega
   have hrbw : rb < wd.heap.size := lt_of_block hrd9
   have q0 := hrd9.c3
   clear hHeld d0 d1 hl1 hrd1 hown1 hb1
   refine wpAnyH_take (i := 0) (v := .pointer (some ⟨rb, 0, none⟩)) rfl (by kernel_rfl) (by kernel_rfl) (by kernel_rfl) (fun _ _ _ h => h) (Or.inl ⟨by rfl, fun w' h => by  go_simp⟩) hlb ?_
   try simp only [Act.put, zz]
   refine wpAnyH_take (i := 1) (v := .pointer (some ⟨rb, 0, none⟩)) rfl (by kernel_rfl) (by kernel_rfl) (by kernel_rfl) (fun _ _ _ h => h) (Or.inl ⟨by rfl, fun w' h => by  go_simp⟩) hlb ?_
   try simp only [Act.put, zz]
   refine wpAnyH_take (i := 2) (v := .pointer (some ⟨rb, 0, none⟩)) rfl (by kernel_rfl) (by kernel_rfl) (by kernel_rfl) (fun _ _ _ h => h) (Or.inl ⟨by rfl, fun w' h => by  go_simp⟩) hlb ?_
   try simp only [Act.put, zz]
   refine wpAnyH_take (i := 3) (v := .pointer (some ⟨rb, 3, none⟩)) rfl (by kernel_rfl) (by kernel_rfl) (by kernel_rfl) (fun _ _ _ h => h) (Or.inl ⟨by rfl, fun w' h => by  go_simp⟩) hlb ?_
   try simp only [Act.put, zz]
   refine wpAnyH_take (i := 5) (v := .agg #[.string (bs pw), .bool ph]) rfl (by kernel_rfl) (by kernel_rfl) (by kernel_rfl) (fun _ _ _ h => h) (Or.inl ⟨by rfl, fun w' h => by have r0 := blk_cell h 0 _ rfl; have r1 := blk_cell h 1 _ rfl; go_simp⟩) hlb ?_
   try simp only [Act.put, zz]
   refine wpAnyH_ready (rs := [4, 6]) (by kernel_rfl) (by simp) ?_
   refine AllReadyH.cons rfl (fun K hK => ?_) (AllReadyH.cons rfl (fun K hK => ?_) AllReadyH.nil)
   case refine_1 =>
    rw [if_pos (by rfl)]
    go_wp2_with fail
    refine hK.out _ _ hlb (fun hHeld => ?_)
    clear hK K
    try simp only [Act.put, zz]
    clear q0
    refine wpAnyH_ready (rs := [6]) (by kernel_rfl) (by simp) ?_
    refine AllReadyH.cons rfl (fun K hK => ?_) AllReadyH.nil
    rw [if_pos (by rfl)]
    go_wp2_with fail
    refine hK.out _ _ (stay_alloc hlb) (fun hHeld => ?_)
    clear hK K
    try simp only [Act.put, zz]
    refine wpAnyH_ready (rs := [7]) (by kernel_rfl) (by simp) ?_
    refine AllReadyH.cons rfl (fun K hK => ?_) AllReadyH.nil
    rw [if_pos (by rfl)]
    refine wp_append_lies _ _ _ 113 rfl B 315 ib (.agg #[.string ByteArray.empty, .bool false]) 2 24 Tryz.underlying113 hib jb0 jb1 jb2 rfl (by decide) (.slice np st.names.length nc) st.names.length (nmCells st.names) rfl (hcsB.alloc _) ⟨_, 0, none⟩ 1 1 [.string (bs pw), .bool ph] rfl rfl (D.cells_at _ _ _ _ (by simp)) (fun x hx => by simp at hx; rcases hx with rfl | rfl <;> rfl) (by decide) (by unfold maxLen; omega) (by omega) (by simp; omega) _ rfl ?_
    intro gw cw w10 hown10 hgrow10x _ _
    have hgrow10 : (wd.alloc (.cells #[.string (bs pw), .bool ph] 315)).grownBy w10 (Value.slice np st.names.length nc).ownBlock := hgrow10x
    clear hgrow10x
    have hlb10 : w10.heap[lb]? = some (.cells #[.string (bs pw), .bool ph] 315) := (hgrow10.block lb (by simp; omega) (fun e => hlbne e)).trans (stay_alloc hlb)
    have hrd10 : Rd w10 rb 115 s l 6 [.slice np st.names.length nc, .bool st.unbound] := stay_grown (hcsB.alloc _) hgrow10 (stay_alloc hrd9) (by decide)
    have HO10 : Hid (w10.ownsRow B 315 2 (.slice (some ⟨gw, 0, none⟩) (st.names.length + 1) cw) (st.names ++ [(pw, ph)]).length (nmCells (st.names ++ [(pw, ph)]))) := by
     rw [nmCells_snoc, List.length_append]; exact hown10
    have hk10 : Kin w w10 rb B := by
     refine ⟨hgrow10.os.trans hkd.os, hgrow10.tape.trans hkd.tape, hgrow10.output.trans hkd.output, Nat.le_trans hkd.size (Nat.le_trans (by simp) hgrow10.size), fun q o hq hne ht => ?_⟩
     have h1 := hkd.block q o hq hne ht
     have h2 := stay_alloc (p := .cells #[.string (bs pw), .bool ph] 315) h1
     rw [hgrow10.block q (lt_of_block h2) (fun e => ?_)]
     ·exact h2
     ·rcases (hcsB.alloc (.cells #[.string (bs pw), .bool ph] 315)).2 with ⟨h3, _⟩ | ⟨g3, c3', cur3, h3, h4, h5, _⟩
      ·rw [h3] at e; cases e
      ·rw [h3] at e
       simp only [Value.ownBlock, Option.some.injEq] at e
       subst e
       rcases ht with ht | ht
       ·omega
       ·rw [h2] at h5
        simp only [Option.some.injEq] at h5
        exact ht _ _ h5
    refine hK.out _ _ hlb10 (fun hHeld => ?_)
    clear hK K
    try simp only [Act.put, zz]
    refine wpAnyH_take (i := 8) (v := .pointer (some ⟨rb, 0, none⟩)) rfl (by kernel_rfl) (by kernel_rfl) (by kernel_rfl) (fun _ _ _ h => h) (Or.inl ⟨by rfl, fun w' h => by  go_simp⟩) hlb10 ?_
    try simp only [Act.put, zz]
    refine wpAnyH_take (i := 9) (v := .pointer (some ⟨rb, 3, none⟩)) rfl (by kernel_rfl) (by kernel_rfl) (by kernel_rfl) (fun _ _ _ h => h) (Or.inl ⟨by rfl, fun w' h => by  go_simp⟩) hlb10 ?_
    try simp only [Act.put, zz]
    have q1 := hrd10.c3
    have q2 := hrd10.fz 3
    refine wpAnyH_ready (rs := [10]) (by kernel_rfl) (by simp) ?_
    refine AllReadyH.cons rfl (fun K hK => ?_) AllReadyH.nil
    rw [if_pos (by rfl)]
    go_wp2_with fail
    refine hK.out _ _ (stay_set hlb10 (by simp; omega)) (fun hHeld => ?_)
    clear hK K
    try simp only [Act.put, zz]
    refine wpAnyH_done (by kernel_rfl) ?_ _
    have hrd11 := hrd10.set3 (.slice (some ⟨gw, 0, none⟩) (st.names.length + 1) cw)
    have hk11 : Kin w (w10.setCell ⟨rb, 3, none⟩ (.slice (some ⟨gw, 0, none⟩) (st.names.length + 1) cw)) rb B := hk10.trans (Kin.grown (grown_set _ _ _ _))
    have HO11 : Hid ((w10.setCell ⟨rb, 3, none⟩ (.slice (some ⟨gw, 0, none⟩) (st.names.length + 1) cw)).ownsRow B 315 2 (.slice (some ⟨gw, 0, none⟩) (st.names.length + 1) cw) (st.names ++ [(pw, ph)]).length (nmCells (st.names ++ [(pw, ph)]))) := own_set HO10.out hrd10 (by decide)
    generalize w10.setCell ⟨rb, 3, none⟩ (.slice (some ⟨gw, 0, none⟩) (st.names.length + 1) cw) = w11 at *
    have c11 := hrd11.c3
    clear q1 q2 hlb10 hown10 hgrow10 hrd10 HO10 hk10
    go_wp2
    go_ret
    exact Or.inl ⟨⟨st.names ++ [(pw, ph)], st.unbound⟩, (st.names.length : Int), HBS.out, by first | rfl | congr 1 | (congr 1; simp), ⟨st.names.length, rfl, by simp⟩, ⟨_, hrd11, HO11.out⟩, hk11⟩
   case refine_2 =>
    rw [if_pos (by rfl)]
    go_wp2_with fail
    refine hK.out _ _ (stay_alloc hlb) (fun hHeld => ?_)
    clear hK K
    try simp only [Act.put, zz]
    refine wpAnyH_ready (rs := [4]) (by kernel_rfl) (by simp) ?_
    refine AllReadyH.cons rfl (fun K hK => ?_) AllReadyH.nil
    rw [if_pos (by rfl)]
    go_wp2_with fail
    refine hK.out _ _ (stay_alloc hlb) (fun hHeld => ?_)
    clear hK K
    try simp only [Act.put, zz]
    clear q0
    refine wpAnyH_ready (rs := [7]) (by kernel_rfl) (by simp) ?_
    refine AllReadyH.cons rfl (fun K hK => ?_) AllReadyH.nil
    rw [if_pos (by rfl)]
    refine wp_append_lies _ _ _ 113 rfl B 315 ib (.agg #[.string ByteArray.empty, .bool false]) 2 24 Tryz.underlying113 hib jb0 jb1 jb2 rfl (by decide) (.slice np st.names.length nc) st.names.length (nmCells st.names) rfl (hcsB.alloc _) ⟨_, 0, none⟩ 1 1 [.string (bs pw), .bool ph] rfl rfl (D.cells_at _ _ _ _ (by simp)) (fun x hx => by simp at hx; rcases hx with rfl | rfl <;> rfl) (by decide) (by unfold maxLen; omega) (by omega) (by simp; omega) _ rfl ?_
    intro gw cw w10 hown10 hgrow10x _ _
    have hgrow10 : (wd.alloc (.cells #[.string (bs pw), .bool ph] 315)).grownBy w10 (Value.slice np st.names.length nc).ownBlock := hgrow10x
    clear hgrow10x
    have hlb10 : w10.heap[lb]? = some (.cells #[.string (bs pw), .bool ph] 315) := (hgrow10.block lb (by simp; omega) (fun e => hlbne e)).trans (stay_alloc hlb)
    have hrd10 : Rd w10 rb 115 s l 6 [.slice np st.names.length nc, .bool st.unbound] := stay_grown (hcsB.alloc _) hgrow10 (stay_alloc hrd9) (by decide)
    have HO10 : Hid (w10.ownsRow B 315 2 (.slice (some ⟨gw, 0, none⟩) (st.names.length + 1) cw) (st.names ++ [(pw, ph)]).length (nmCells (st.names ++ [(pw, ph)]))) := by
     rw [nmCells_snoc, List.length_append]; exact hown10
    have hk10 : Kin w w10 rb B := by
     refine ⟨hgrow10.os.trans hkd.os, hgrow10.tape.trans hkd.tape, hgrow10.output.trans hkd.output, Nat.le_trans hkd.size (Nat.le_trans (by simp) hgrow10.size), fun q o hq hne ht => ?_⟩
     have h1 := hkd.block q o hq hne ht
     have h2 := stay_alloc (p := .cells #[.string (bs pw), .bool ph] 315) h1
     rw [hgrow10.block q (lt_of_block h2) (fun e => ?_)]
     ·exact h2
     ·rcases (hcsB.alloc (.cells #[.string (bs pw), .bool ph] 315)).2 with ⟨h3, _⟩ | ⟨g3, c3', cur3, h3, h4, h5, _⟩
      ·rw [h3] at e; cases e
      ·rw [h3] at e
       simp only [Value.ownBlock, Option.some.injEq] at e
       subst e
       rcases ht with ht | ht
       ·omega
       ·rw [h2] at h5
        simp only [Option.some.injEq] at h5
        exact ht _ _ h5
    refine hK.out _ _ hlb10 (fun hHeld => ?_)
    clear hK K
    try simp only [Act.put, zz]
    refine wpAnyH_take (i := 8) (v := .pointer (some ⟨rb, 0, none⟩)) rfl (by kernel_rfl) (by kernel_rfl) (by kernel_rfl) (fun _ _ _ h => h) (Or.inl ⟨by rfl, fun w' h => by  go_simp⟩) hlb10 ?_
    try simp only [Act.put, zz]
    refine wpAnyH_take (i := 9) (v := .pointer (some ⟨rb, 3, none⟩)) rfl (by kernel_rfl) (by kernel_rfl) (by kernel_rfl) (fun _ _ _ h => h) (Or.inl ⟨by rfl, fun w' h => by  go_simp⟩) hlb10 ?_
    try simp only [Act.put, zz]
    have q1 := hrd10.c3
    have q2 := hrd10.fz 3
    refine wpAnyH_ready (rs := [10]) (by kernel_rfl) (by simp) ?_
    refine AllReadyH.cons rfl (fun K hK => ?_) AllReadyH.nil
    rw [if_pos (by rfl)]
    go_wp2_with fail
    refine hK.out _ _ (stay_set hlb10 (by simp; omega)) (fun hHeld => ?_)
    clear hK K
    try simp only [Act.put, zz]
    refine wpAnyH_done (by kernel_rfl) ?_ _
    have hrd11 := hrd10.set3 (.slice (some ⟨gw, 0, none⟩) (st.names.length + 1) cw)
    have hk11 : Kin w (w10.setCell ⟨rb, 3, none⟩ (.slice (some ⟨gw, 0, none⟩) (st.names.length + 1) cw)) rb B := hk10.trans (Kin.grown (grown_set _ _ _ _))
    have HO11 : Hid ((w10.setCell ⟨rb, 3, none⟩ (.slice (some ⟨gw, 0, none⟩) (st.names.length + 1) cw)).ownsRow B 315 2 (.slice (some ⟨gw, 0, none⟩) (st.names.length + 1) cw) (st.names ++ [(pw, ph)]).length (nmCells (st.names ++ [(pw, ph)]))) := own_set HO10.out hrd10 (by decide)
    generalize w10.setCell ⟨rb, 3, none⟩ (.slice (some ⟨gw, 0, none⟩) (st.names.length + 1) cw) = w11 at *
    have c11 := hrd11.c3
    clear q1 q2 hlb10 hown10 hgrow10 hrd10 HO10 hk10
    go_wp2
    go_ret
    exact Or.inl ⟨⟨st.names ++ [(pw, ph)], st.unbound⟩, (st.names.length : Int), HBS.out, by first | rfl | congr 1 | (congr 1; simp), ⟨st.names.length, rfl, by simp⟩, ⟨_, hrd11, HO11.out⟩, hk11⟩
def fitS (nw : List UInt8) (nb : Bool) (pw : List UInt8) (ph : Bool) : Bool := nw == pw && (nb || !ph)
theorem find1_any (nw : List UInt8) (nb : Bool) (pw : List UInt8) (ph : Bool) (b : Nat) (w : World) (hb : w.heap[b]? = some (.cells #[.string (bs pw), .bool ph] 315)) :
  Calls Tryz.prog 195 #[.agg #[.string (bs nw), .bool nb], .pointer (some ⟨b, 0, none⟩)] w fun e w' => e = .returned (.bool (fitS nw nb pw ph)) /\ Below w.heap.size w w' := by
 have d0 := blk_cell hb 0 _ rfl
 have d1 := blk_cell hb 1 _ rfl
 have hlt := lt_of_block hb
 have hcmp := str_eq nw pw
 by_cases heq : nw = pw
 ·rw [decide_eq_true heq] at hcmp
  have HF : Hid (fitS nw nb pw ph = (nb || !ph)) := by simp [Hid, fitS, heq]
  clear heq
  cases nb <;> cases ph
  all_goals
   go_enter Tryz.func195, Tryz.ntmps195
   go_wp2
   go_ret
   exact ⟨ret_bool (by rw [HF.out]; rfl), below_al (Below.refl _ _) _⟩
 ·rw [decide_eq_false heq] at hcmp
  have HF : Hid (fitS nw nb pw ph = false) := by simp [Hid, fitS, heq]
  clear heq
  go_enter Tryz.func195, Tryz.ntmps195
  go_wp2
  go_ret
  exact ⟨ret_bool (by rw [HF.out]), below_al (Below.refl _ _) _⟩
def slotI (o : Option Nat) : Int := match o with
 | some k => (k : Int)
 | none => -1
theorem slotOf_hit {ns : List Nm} {pw : List UInt8} {ph : Bool} {k : Nat} (hk : k < ns.length) (h : fitS (ns[k]).1 (ns[k]).2 pw ph = true) (hb : ∀ j (hj : j < ns.length), j < k -> fitS (ns[j]).1 (ns[j]).2 pw ph = false) : Code.slotOf ns (pw, ph) = some k := by
 unfold Code.slotOf
 rw [List.findIdx?_eq_some_iff_getElem]
 exact ⟨hk, h, fun j hj h' => by
  have := hb j (by omega) hj
  exact absurd (h'.symm.trans this) (by simp)⟩
theorem slotOf_miss {ns : List Nm} {pw : List UInt8} {ph : Bool} (hb : ∀ j (hj : j < ns.length), fitS (ns[j]).1 (ns[j]).2 pw ph = false) : Code.slotOf ns (pw, ph) = none := by
 unfold Code.slotOf
 rw [List.findIdx?_eq_none_iff]
 intro x hx
 obtain ⟨j, hj, rfl⟩ := List.getElem_of_mem hx
 exact hb j hj
theorem indexName_any (ns : List Nm) (np : Option Addr) (nc B : Nat) (pw : List UInt8) (ph : Bool) (b : Nat) (w : World) (hb : w.heap[b]? = some (.cells #[.string (bs pw), .bool ph] 315)) (ho : w.ownsRow B 315 2 (.slice np ns.length nc) ns.length (nmCells ns)) (hn : ns.length <= 6000) :
  Calls Tryz.prog 194 #[.slice np ns.length nc, .func (.func 195) #[] #[.pointer (some ⟨b, 0, none⟩)]] w fun e w' => e = .returned (.int .i64 (slotI (Code.slotOf ns (pw, ph)))) /\ Below w.heap.size w w' := by
 have HO := hide ho
 have HB := hide hb
 have hcapn : ns.length <= nc := own_cap ho
 clear hb ho
 go_enter Tryz.func194, Tryz.ntmps194
 go_wp2_with fail
 have HN0 : Hid (∀ j (hj : j < ns.length), j < 0 -> fitS (ns[j]).1 (ns[j]).2 pw ph = false) := hide (fun j _ h => by omega)
 go_loopw [8] (fun i wr => ∃ k : Nat, k <= ns.length /\ i = .int .i64 k /\ Below w.heap.size w wr /\ Hid (∀ j (hj : j < ns.length), j < k -> fitS (ns[j]).1 (ns[j]).2 pw ph = false)) (fun i _ => ns.length - (intOf i).toNat)
 case atStart => exact ⟨0, by omega, rfl, Below.refl _ _, HN0⟩
 case round =>
  obtain ⟨k, hk, rfl, hbw, hne⟩ := hrel
  clear HN0
  have hb1 := (hbw.block b (lt_of_block HB.out)).trans HB.out
  by_cases hlt : k < ns.length
  ·obtain ⟨g, cap, hge, hBg, hgl, hcell⟩ := row_open (own_below HO.out hbw) (by omega)
   simp only [Value.slice.injEq] at hge
   obtain ⟨rfl, _, rfl⟩ := hge
   have e0 := hcell _ _ (nmCells_get ns k hlt).1
   have e1 := hcell _ _ (nmCells_get ns k hlt).2
   have hkl : (k : Int) < (ns.length : Int) := by omega
   clear hcell
   cases hf : fitS (ns[k]).1 (ns[k]).2 pw ph with
   | true =>
    have HSL : Hid (slotI (Code.slotOf ns (pw, ph)) = (k : Int)) := by
     refine hide ?_
     rw [slotOf_hit hlt hf hne.out]; rfl
    have HF := hide hf
    clear hne hf
    generalize (ns[k]).1 = nw at *
    generalize (ns[k]).2 = nb at *
    go_wp2_with fail
    refine (find1_any nw nb pw ph b wr hb1).mono ?_
    rw [HF.out]
    rintro e w4 ⟨rfl, hb4⟩
    go_wp2
    go_ret
    exact ⟨ret_int HSL.out.symm, hbw.trans (hb4.mono hbw.size)⟩
   | false =>
    have HN : Hid (∀ j (hj : j < ns.length), j < k + 1 -> fitS (ns[j]).1 (ns[j]).2 pw ph = false) := hide (fun j hj hjk => by
     by_cases h : j < k
     ·exact hne.out j hj h
     ·have : j = k := by omega
      subst this; exact hf)
    have HF := hide hf
    clear hne hf
    generalize (ns[k]).1 = nw at *
    generalize (ns[k]).2 = nb at *
    go_wp2_with fail
    refine (find1_any nw nb pw ph b wr hb1).mono ?_
    rw [HF.out]
    rintro e w4 ⟨rfl, hb4⟩
    have hb5 := hbw.trans (hb4.mono hbw.size)
    go_wp2
    exact ⟨⟨k + 1, by omega, by go_num, hb5, HN⟩, by simp [intOf]; omega⟩
  ·have HSL : Hid (slotI (Code.slotOf ns (pw, ph)) = -1) := by
    refine hide ?_
    rw [slotOf_miss (fun j hj => hne.out j hj (by omega))]; rfl
   clear hne
   go_wp2
   go_ret
   exact ⟨ret_int HSL.out.symm, hbw⟩
theorem Rd.c4 {w : World} {rb : Nat} {T : TypeId} {s : List UInt8} {l why : Int} {a b : Value} {X : List Value} (h : Rd w rb T s l why (a :: b :: X)) : w.cell? ⟨rb, 4, none⟩ = some b := blk_cell h 4 _ (by simp)
theorem Rd.set4 {w : World} {rb : Nat} {T : TypeId} {s : List UInt8} {l why : Int} {a b : Value} {X : List Value} (h : Rd w rb T s l why (a :: b :: X)) (b' : Value) : Rd (w.setCell ⟨rb, 4, none⟩ b') rb T s l why (a :: b' :: X) := by
 unfold Rd; rw [set_block h]; simp
theorem find_any (rb B : Nat) (s : List UInt8) (l : Int) (st : RSt) (pw : List UInt8) (ph : Bool) (w : World) (hr : Rdr w rb B s l st) (hn : st.names.length <= 6000) :
  Calls Tryz.prog 153 #[.pointer (some ⟨rb, 0, none⟩), .agg #[.string (bs pw), .bool ph]] w fun e w' => SlotPost (Code.findS st (pw, ph)) (pw, ph) w rb B s l LR e w' := by
 have hmf : ∀ (fn : Fn) (first cap : Array Value) (w : World), (Instr.makeFunc fn first cap).run Tryz.prog w = .ok (.func fn first cap) w := fun _ _ _ _ => rfl
 obtain ⟨nv, hrd, hown⟩ := hr
 obtain ⟨np, nc, rfl⟩ := own_slice hown
 have hrlt := lt_of_block hrd
 have c3 := hrd.c3
 have HOWN := hide hown
 clear hown
 have HLR : Hid (LR st (slotI (Code.slotOf st.names (pw, ph))) (pw, ph)) := by
  show _ = _
  unfold slotI
  rfl
 have HLN : Hid (decide (slotI (Code.slotOf st.names (pw, ph)) < 0) = (Code.slotOf st.names (pw, ph)).isNone) := by
  refine hide ?_
  cases Code.slotOf st.names (pw, ph) with
  | none => rfl
  | some k =>
   show decide ((k : Int) < 0) = false
   exact decide_eq_false (by omega)
 have HFS : Hid (Code.findS st (pw, ph) = some ⟨st.names, st.unbound || (Code.slotOf st.names (pw, ph)).isNone⟩) := rfl
 go_enter Tryz.func153, Tryz.ntmps153
 go_wp2_with fail
 generalize hw0 : w.alloc _ = w0
 have hb0 : Below w.heap.size w w0 := by rw [<- hw0]; exact below_al (Below.refl _ _) _
 have hl0 : w0.heap[w.heap.size]? = some (.cells #[.string (bs pw), .bool ph] 315) := by rw [<- hw0]; exact heap_alloc_new w _
 clear hw0
 refine (indexName_any st.names np nc B pw ph w.heap.size w0 hl0 (own_below HOWN.out hb0) hn).mono ?_
 rintro e w1 ⟨rfl, hb1⟩
 have hbw : Below w.heap.size w w1 := hb0.trans (hb1.mono hb0.size)
 have hrd1 : Rd w1 rb 115 s l 6 [.slice np st.names.length nc, .bool st.unbound] := (hbw.block rb hrlt).trans hrd
 have hown1 := own_below HOWN.out hbw
 generalize slotI (Code.slotOf st.names (pw, ph)) = z at *
 generalize (Code.slotOf st.names (pw, ph)).isNone = zn at *
 have c4 := hrd1.c4
 have f4 := hrd1.fz 4
 have HRD := hide hrd1
 have HO1 := hide hown1
 clear hrd1 hown1 hrd c3 hb0 hl0 hb1
 have hfin : ∀ u : Bool, Hid ((st.unbound || zn) = u) -> SlotPost (Code.findS st (pw, ph)) (pw, ph) w rb B s l LR (.returned (.int .i64 z)) (w1.setCell ⟨rb, 4, none⟩ (.bool u)) := fun u hu => by
  have h1 := HRD.out.set4 (.bool u)
  refine Or.inl ⟨⟨st.names, st.unbound || zn⟩, z, HFS.out, rfl, HLR.out, ⟨_, ?_, own_set HO1.out HRD.out (by decide)⟩, (Kin.below hbw).trans (Kin.grown (grown_set _ _ _ _))⟩
  rw [hu.out]; exact h1
 have HFIN := hide hfin
 clear hfin
 cases hub : st.unbound with
 | true =>
  rw [hub] at c4
  have HU : Hid ((st.unbound || zn) = true) := by simp [Hid, hub]
  clear hub
  go_wp2
  go_ret
  exact HFIN.out _ HU
 | false =>
  rw [hub] at c4
  have HU : Hid ((st.unbound || zn) = decide (z < 0)) := by simp [Hid, hub, HLN.out]
  clear hub
  go_wp2
  go_ret
  exact HFIN.out _ HU
def Slots (K : Nat) (slot : RSt -> Nm -> Option RSt) (L : RSt -> Int -> Nm -> Prop) : Prop :=
 ∀ (rb B : Nat) (s : List UInt8) (l : Int) (st : RSt) (pw : List UInt8) (ph : Bool) (w : World), Rdr w rb B s l st -> st.names.length <= 6000 -> B <= w.heap.size ->
  Calls Tryz.prog K #[.pointer (some ⟨rb, 0, none⟩), .agg #[.string (bs pw), .bool ph]] w fun e w' => SlotPost (slot st (pw, ph)) (pw, ph) w rb B s l L e w'
theorem bind_slots : Slots 189 Code.bindS LP := fun rb B s l st pw ph w hr hn hB => bind_any rb B s l st pw ph w hr hn hB
theorem find_slots : Slots 153 Code.findS LR := fun rb B s l st pw ph w hr hn _ => find_any rb B s l st pw ph w hr hn
theorem signed_rdr (rb B : Nat) (s : List UInt8) (l : Int) (st : RSt) (w : World) (hr : Rdr w rb B s l st) (hs : s.length <= 3000) :
  Calls Tryz.prog 193 #[.pointer (some ⟨rb, 0, none⟩)] w fun e w' =>
   (∃ n t, Code.signed s = some (n, t) /\ e = .returned (.int .i32 n) /\ Rdr w' rb B t l st /\ w.grownBy w' (some rb)) \/ (Code.signed s = none /\ FailsK w rb B l 6 e w') := by
 obtain ⟨nv, h1, h2⟩ := hr
 refine (signed_at rb _ s l 6 _ w h1 hs).mono ?_
 rintro e w' (⟨n, t, h3, h4, h5, h6⟩ | ⟨h3, h4⟩)
 ·exact Or.inl ⟨n, t, h3, h4, Rdr.grown h1 h2 h5 h6, h6⟩
 ·exact Or.inr ⟨h3, h4.kin⟩
theorem behind_of {s : List UInt8} (h : Code.word s = []) : Code.behind s = s := by
 have e : Code.word s ++ Code.behind s = s := Code.run_rest 97 122 s
 rw [h] at e
 exact e
theorem str_nil (a : List UInt8) : ((bs a).toList == []) = decide (a = []) := by
 rw [ByteArray.toList_eq]
 show (bl (bs a) == []) = _
 rw [bl_bs, Bool.eq_iff_iff]
 simp
theorem atom_any (K : Nat) (hE : ∀ args w, (callFunc K args).run Tryz.prog w = .ok (.enter K args) w) (slot : RSt -> Nm -> Option RSt) (L : RSt -> Int -> Nm -> Prop) (hK : Slots K slot L) (res : Bool)
  (rb B : Nat) (s : List UInt8) (l : Int) (st : RSt) (w : World) (hr : Rdr w rb B s l st) (hs : s.length <= 3000) (hsn : st.names.length + s.length <= 6000) (ht : Tab w) (hrb : 0 < rb) (hB : 0 < B) (hBw : B <= w.heap.size) :
  Calls Tryz.prog 152 #[.pointer (some ⟨rb, 0, none⟩), .func (.func K) #[.pointer (some ⟨rb, 0, none⟩)] #[]] w fun e w' => TreePost (Code.atomS slot st s) w rb B l res L e w' := by
 have HK := hide hK
 have HT := hide ht
 clear hK ht
 go_enter Tryz.func152, Tryz.ntmps152
 go_wp2_with fail
 refine (skip_rdr rb B s [35] l st w hr hs (by simp)).mono ?_
 rintro e w1 ⟨rfl, hr1, hg1⟩
 have hk1 : Kin w w1 rb B := Kin.grown hg1
 obtain ⟨h, s1, hh, hs1, hl1, HA⟩ : ∃ (h : Bool) (s1 : List UInt8), (Code.cut [35] s).isSome = h /\ (Code.cut [35] s).getD s = s1 /\ s1.length <= s.length /\
   Hid (Code.atomS slot st s = (if h = true then (Code.nameP s1).map fun p => ((.hash p.1 : RTree), p.2) else if Code.word s1 = [] then (Code.signed s1).map fun p => (.num p.1, p.2) else (Code.nameP s1).map fun p => (.name p.1, p.2)).bind fun p => (p.1.leaf slot st).map fun st' => (p.1, st', p.2)) := by
  refine ⟨_, _, rfl, rfl, ?_, ?_⟩
  ·cases hc : Code.cut [35] s with
   | none => exact Nat.le_refl _
   | some r => have := Code.cut_length hc; simp; omega
  ·refine hide ?_
   unfold Code.atomS Code.atomP
   cases hc : Code.cut [35] s with
   | none => simp
   | some r => simp
 rw [hh]
 rw [hs1] at hr1
 clear hh hs1 hg1 hr
 have hbh : Code.word s1 = [] -> Code.behind s1 = s1 := behind_of
 have lb1 : (Code.behind s1).length <= s1.length := Code.rest_length 97 122 s1
 go_wp2_with fail
 refine (letters_rdr rb B s1 l st w1 hr1 (by omega)).mono ?_
 rintro e w2 ⟨rfl, hr2, hg2⟩
 have hk2 : Kin w w2 rb B := hk1.trans (Kin.grown hg2)
 have e1 := bs_size (Code.word s1)
 have hnil := str_nil (Code.word s1)
 have hlw : (Code.word s1).length <= s1.length := Code.run_length 97 122 s1
 have HNP : Hid (Code.nameP s1 = if Code.word s1 = [] \/ 6 < (Code.word s1).length \/ (Code.opNamed (Code.word s1)).isSome = true then none else some (Code.word s1, Code.behind s1)) := rfl
 by_cases hw0 : Code.word s1 = []
 ·have hb0 := hbh hw0
  rw [decide_eq_true hw0] at hnil
  rw [hb0] at hr2 HNP
  cases h with
  | false =>
   have HS : Hid (Code.atomS slot st s = (Code.signed s1).map fun p => ((.num p.1 : RTree), st, p.2)) := by
    rw [HA.out]
    refine hide ?_
    simp only [Bool.false_eq_true, if_false, hw0, if_true]
    cases Code.signed s1 <;> rfl
   generalize Code.word s1 = ww at *
   clear HA HNP hbh hb0 hw0
   go_wp2_with fail
   refine (signed_rdr rb B s1 l st w2 hr2 (by omega)).mono ?_
   rintro e w3 (⟨n, t, hc, rfl, hr3, hg3⟩ | ⟨hc, rfl, hk3⟩)
   ·have hsg := Code.signed_length hc
    have HC : Hid (Code.atomS slot st s = some (.num n, st, t)) := by rw [HS.out, hc]; exact rfl
    clear hc
    go_wp2
    go_ret
    exact Or.inl ⟨.num n, st, t, _, HC.out, rfl, hr3, ⟨rfl, hsg.2⟩, hk2.trans (Kin.grown hg3)⟩
   ·go_wp2
    exact ⟨rfl, Or.inr ⟨by rw [HS.out, hc]; rfl, rfl, hk2.trans hk3⟩⟩
  | true =>
   have HS : Hid (Code.atomS slot st s = none) := by
    rw [HA.out]
    refine hide ?_
    simp only [if_true]
    rw [HNP.out, if_pos (Or.inl hw0)]
    rfl
   generalize Code.word s1 = ww at *
   clear HA HNP hbh hb0 hw0
   go_wp2_with fail
   refine (opNamed_any ww w2 (hk2.tab hrb hB HT.out)).mono ?_
   rintro e w3 ⟨⟨k, hk13, hc, rfl⟩ | ⟨hc, rfl⟩, hb3⟩
   all_goals
    have hr3 := hr2.below hb3
    have hk3 := hk2.trans (Kin.below (rb := rb) (B := B) hb3)
    clear hc
    go_wp2_with fail
    refine (fail_rdr rb B _ l st w3 hr3).mono ?_
    rintro e w4 ⟨rfl, hk4⟩
    go_wp2
    exact ⟨rfl, Or.inr ⟨HS.out, rfl, hk3.trans hk4⟩⟩
 ·rw [decide_eq_false hw0] at hnil
  have HA2 : Hid (Code.atomS slot st s = ((Code.nameP s1).map fun p => ((if h = true then .hash p.1 else .name p.1 : RTree), p.2)).bind fun p => (p.1.leaf slot st).map fun st' => (p.1, st', p.2)) := by
   rw [HA.out]
   refine hide ?_
   cases h
   ·simp only [Bool.false_eq_true, if_false, if_neg hw0]
   ·simp only [if_true]
  generalize Code.word s1 = ww at *
  generalize Code.behind s1 = s2 at *
  clear HA hbh
  have hstop : (6 < ww.length \/ (Code.opNamed ww).isSome = true) -> Hid (Code.atomS slot st s = none) := fun hbad => by
   rw [HA2.out, HNP.out, if_pos (Or.inr hbad)]
   exact rfl
  have HSTOP := hide hstop
  clear hstop
  cases h with
  | false =>
   go_wp2_with fail
   refine (opNamed_any ww w2 (hk2.tab hrb hB HT.out)).mono ?_
   rintro e w3 ⟨⟨k, hk13, hc, rfl⟩ | ⟨hc, rfl⟩, hb3⟩
   ·have hr3 := hr2.below hb3
    have hk3 := hk2.trans (Kin.below (rb := rb) (B := B) hb3)
    have HN := HSTOP.out (Or.inr (by rw [hc]; rfl))
    clear hc
    go_wp2_with fail
    refine (fail_rdr rb B _ l st w3 hr3).mono ?_
    rintro e w4 ⟨rfl, hk4⟩
    go_wp2
    exact ⟨rfl, Or.inr ⟨HN.out, rfl, hk3.trans hk4⟩⟩
   ·have hr3 := hr2.below hb3
    have hk3 := hk2.trans (Kin.below (rb := rb) (B := B) hb3)
    have hz3 := hk3.size
    by_cases h6 : 6 < ww.length
    ·have HN := HSTOP.out (Or.inl h6)
     have h6' : (6 : Int) < (ww.length : Int) := by omega
     clear hc
     go_wp2_with fail
     refine (fail_rdr rb B _ l st w3 hr3).mono ?_
     rintro e w4 ⟨rfl, hk4⟩
     go_wp2
     exact ⟨rfl, Or.inr ⟨HN.out, rfl, hk3.trans hk4⟩⟩
    ·have HS : Hid (Code.atomS slot st s = (slot st (ww, false)).map fun st' => ((.name ww : RTree), st', s2)) := by
      rw [HA2.out, HNP.out, if_neg (by rw [hc]; simp [hw0, h6])]
      exact rfl
     have h6' : ¬ (6 : Int) < (ww.length : Int) := by omega
     clear hc HA2 HNP HSTOP
     go_wp2_with fail
     refine (HK.out rb B s2 l st ww false w3 hr3 (by omega) (by omega)).mono ?_
     rintro e w4 (⟨st4, i4, hc, rfl, hL4, hr4, hk4⟩ | ⟨hc, rfl, hk4⟩)
     ·have HC : Hid (Code.atomS slot st s = some (.name ww, st4, s2)) := by rw [HS.out, hc]; exact rfl
      clear hc
      go_wp2
      go_ret
      exact Or.inl ⟨.name ww, st4, s2, _, HC.out, rfl, hr4, ⟨i4, rfl, hL4⟩, hk3.trans hk4⟩
     ·go_wp2
      exact ⟨rfl, Or.inr ⟨by rw [HS.out, hc]; rfl, rfl, hk3.trans hk4⟩⟩
  | true =>
   go_wp2_with fail
   refine (opNamed_any ww w2 (hk2.tab hrb hB HT.out)).mono ?_
   rintro e w3 ⟨⟨k, hk13, hc, rfl⟩ | ⟨hc, rfl⟩, hb3⟩
   ·have hr3 := hr2.below hb3
    have hk3 := hk2.trans (Kin.below (rb := rb) (B := B) hb3)
    have HN := HSTOP.out (Or.inr (by rw [hc]; rfl))
    clear hc
    go_wp2_with fail
    refine (fail_rdr rb B _ l st w3 hr3).mono ?_
    rintro e w4 ⟨rfl, hk4⟩
    go_wp2
    exact ⟨rfl, Or.inr ⟨HN.out, rfl, hk3.trans hk4⟩⟩
   ·have hr3 := hr2.below hb3
    have hk3 := hk2.trans (Kin.below (rb := rb) (B := B) hb3)
    have hz3 := hk3.size
    by_cases h6 : 6 < ww.length
    ·have HN := HSTOP.out (Or.inl h6)
     have h6' : (6 : Int) < (ww.length : Int) := by omega
     clear hc
     go_wp2_with fail
     refine (fail_rdr rb B _ l st w3 hr3).mono ?_
     rintro e w4 ⟨rfl, hk4⟩
     go_wp2
     exact ⟨rfl, Or.inr ⟨HN.out, rfl, hk3.trans hk4⟩⟩
    ·have HS : Hid (Code.atomS slot st s = (slot st (ww, true)).map fun st' => ((.hash ww : RTree), st', s2)) := by
      rw [HA2.out, HNP.out, if_neg (by rw [hc]; simp [hw0, h6])]
      exact rfl
     have h6' : ¬ (6 : Int) < (ww.length : Int) := by omega
     clear hc HA2 HNP HSTOP
     go_wp2_with fail
     refine (HK.out rb B s2 l st ww true w3 hr3 (by omega) (by omega)).mono ?_
     rintro e w4 (⟨st4, i4, hc, rfl, hL4, hr4, hk4⟩ | ⟨hc, rfl, hk4⟩)
     ·have HC : Hid (Code.atomS slot st s = some (.hash ww, st4, s2)) := by rw [HS.out, hc]; exact rfl
      clear hc
      go_wp2
      go_ret
      exact Or.inl ⟨.hash ww, st4, s2, _, HC.out, rfl, hr4, ⟨i4, rfl, hL4⟩, hk3.trans hk4⟩
     ·go_wp2
      exact ⟨rfl, Or.inr ⟨by rw [HS.out, hc]; rfl, rfl, hk3.trans hk4⟩⟩
theorem infoPart : (Tryz.prog.info? 262).map (fun i => (i.zero, i.size, i.bytes)) = some (some .nilIface, 1, 16) := by kernel_rfl
theorem kidRow_madePart {w : World} {base g n : Nat} (h : w.ownsRow base 262 1 (.slice (some ⟨g, 0, none⟩) n n) n (madeCells Value.nilIface.cells (n * 1)).toList) : kidRow w g 262 [] n := by
 rcases h.2 with ⟨h0, _⟩ | ⟨g', cap, cur, hv, _, hg, _, _, hs, ht⟩
 ·cases h0
 ·simp only [Value.slice.injEq, Option.some.injEq, Addr.mk.injEq] at hv
  obtain ⟨⟨rfl, _⟩, _, rfl⟩ := hv
  unfold kidRow
  rw [hg]
  congr 2
  apply Array.toList_inj.1
  rw [<- List.take_of_length_le (l := cur.toList) (i := n * 1) (by simp [hs]), ht]
  apply List.ext_getElem
  ·simp [madeCells]
  ·intro i h1 h2
   simp [madeCells, Value.cells, Nat.mod_one]
theorem operPart_any (K : Nat) (hE : ∀ args w, (callFunc K args).run Tryz.prog w = .ok (.enter K args) w) (d : Int) (hd1 : 1 <= d) (hd4 : d <= 4) (f : Prs) (L : RSt -> Int -> Nm -> Prop) (hK : Reads K (d + 1) f false L) (hL : ∀ st s t st' r, f st s = some (t, st', r) -> ∀ i p, L st i p -> L st' i p)
  (hN : ∀ st s t st' r, f st s = some (t, st', r) -> st'.names.length + r.length <= st.names.length + s.length /\ r.length <= s.length)
  (rb B : Nat) (s : List UInt8) (l : Int) (st : RSt) (w : World) (hr : Rdr w rb B s l st) (hs : s.length <= 3000) (hsn : st.names.length + s.length <= 6000) (ht : Tab w) (hrb : 0 < rb) (hB : 0 < B) (hBw : B <= w.heap.size) :
  Calls Tryz.prog 146 #[.pointer (some ⟨rb, 0, none⟩), .int .i64 d, .func (.func K) #[.pointer (some ⟨rb, 0, none⟩)] #[]] w fun e w' => OperPost (operK f st s) w rb B l false L e w' := by
 obtain ⟨i0, hi, hi0, hi1, hi2⟩ := info_parts infoPart
 have HK := hide hK
 have HL := hide hL
 have HN := hide hN
 have HT := hide ht
 clear hK hL hN ht
 go_enter Tryz.func146, Tryz.ntmps146
 go_wp2_with fail
 refine (take_rdr rb B s [40] l st w hr hs (by simp)).mono ?_
 rintro e w1 (⟨s1, hc, rfl, hr1, hg1⟩ | ⟨hc, rfl, hk1⟩)
 case inr =>
  go_wp2
  exact ⟨rfl, Or.inr ⟨by simp [operK, hc], rfl, hk1⟩⟩
 have l1 := Code.cut_length hc
 have HA : Hid (operK f st s = (Code.opNamed (Code.word s1)).bind fun k => (Code.kidsS f (Code.opOf k) st (Code.behind s1)).bind fun p => (Code.cut [41] p.2.2).map fun r => (k, p.1, p.2.1, r)) := by simp [Hid, operK, hc]
 clear hc
 have hk1 : Kin w w1 rb B := Kin.grown hg1
 go_wp2_with fail
 refine (letters_rdr rb B s1 l st w1 hr1 (by omega)).mono ?_
 rintro e w2 ⟨rfl, hr2, hg2⟩
 have hk2 : Kin w w2 rb B := hk1.trans (Kin.grown hg2)
 have l2 := Code.rest_length 97 122 s1
 have l2' : (Code.behind s1).length <= s1.length := l2
 generalize Code.behind s1 = s2 at *
 generalize Code.word s1 = ww at *
 clear l2 hk1 hg1 hg2 hr1
 go_wp2_with fail
 refine (opNamed_any ww w2 (hk2.tab hrb hB HT.out)).mono ?_
 rintro e w3 ⟨⟨k, hk13, hc, rfl⟩ | ⟨hc, rfl⟩, hb3⟩
 case inr =>
  have hr3 := hr2.below hb3
  have hk3 := hk2.trans (Kin.below hb3)
  have HC := hide hc
  clear hc
  go_wp2_with fail
  refine (fail_rdr rb B _ l st w3 hr3).mono ?_
  rintro e w4 ⟨rfl, hk4⟩
  go_wp2
  exact ⟨rfl, Or.inr ⟨by rw [HA.out, HC.out]; rfl, rfl, hk3.trans hk4⟩⟩
 have hr3 := hr2.below hb3
 have hk3 : Kin w w3 rb B := hk2.trans (Kin.below hb3)
 have HA2 : Hid (operK f st s = (Code.kidsS f (Code.opOf k) st s2).bind fun p => (Code.cut [41] p.2.2).map fun r => (k, p.1, p.2.1, r)) := by rw [HA.out, hc]; exact rfl
 have hop := Code.opOf_range k hk13
 clear hc hr2 hb3 hk2 HA
 go_wp2_with fail
 refine (opOf_any k w3 hk13 (hk3.tab hrb hB HT.out)).mono ?_
 rintro e w3 ⟨rfl, rfl⟩
 have HOP : Hid (Code.opOf k = Code.opOf k) := hide rfl
 generalize hNN : Code.opOf k = N at *
 obtain ⟨hop1, hop2⟩ := hop
 have hsz3 := hk3.size
 go_wp2_with (first | (at_make; refine wpList_make_full _ rfl _ _ 117 rfl w.heap.size 262 i0 .nilIface 1 Tryz.underlying117 hi hi0 hi1 .i64 .i64 _ _ N rfl rfl rfl rfl (by rw [hi2]; omega) (by unfold maxLen; omega) (by omega) ?_; intro w4 hown4 hgrow4; have hrow4 := kidRow_madePart hown4))
 have hb4 : Below w3.heap.size w3 w4 := ⟨hgrow4.os, hgrow4.tape, hgrow4.output, hgrow4.size, fun q hq => hgrow4.block q hq (by simp)⟩
 have hr4 := hr3.below hb4
 have hk4 : Kin w w4 rb B := hk3.trans (Kin.below hb4)
 have hrlt : rb < w3.heap.size := by
  obtain ⟨X, hX⟩ := hr3.rd
  exact lt_of_block hX
 generalize hG : w3.heap.size = g at *
 have hgl : g < w4.heap.size := lt_of_block hrow4
 have hgne : g ≠ rb := by omega
 clear hown4 hgrow4 hb4 hr3 hk3 HOP
 go_loopw [39] (fun i wr => ∃ (j : Nat) (vs : List Value) (ts : List RTree) (st' : RSt) (t : List UInt8), j <= N /\ vs.length = j /\ i = .int .i64 j /\ kidRow wr g 262 vs (N - j) /\ Rdr wr rb B t l st' /\ t.length <= s.length /\ st'.names.length + t.length <= 6000 /\ Kin w wr rb B /\ RepTs wr (g + 1) false (L st') vs ts /\
   Hid (operK f st s = (Code.kidsS f (N - j) st' t).bind fun p => (Code.cut [41] p.2.2).map fun r => (k, ts ++ p.1, p.2.1, r)))
  (fun i _ => N - (intOf i).toNat)
 case atStart => exact ⟨0, [], [], st, s2, by omega, rfl, rfl, hrow4, hr4, by omega, by omega, hk4, trivial, HA2⟩
 case round =>
  obtain ⟨j, vs, ts, st', t, hj, hvl, rfl, hrow, hrd, htl, htn, hkw, hts, hsp⟩ := hrel
  clear hrow4 hr4 hk4 HA2
  have hgw := lt_of_block hrow
  have hwz := hkw.size
  by_cases hlt : j < N
  ·have hsp' : Hid (operK f st s = ((Code.cut [32] t).bind fun r => (f st' r).bind fun p => (Code.kidsS f (N - (j + 1)) p.2.1 p.2.2).map fun q => (p.1 :: q.1, q.2)).bind fun p => (Code.cut [41] p.2.2).map fun r => (k, ts ++ p.1, p.2.1, r)) := by
    rw [hsp.out, show N - j = (N - (j + 1)) + 1 by omega]; exact rfl
   clear hsp
   go_wp2_with fail
   refine (take_rdr rb B t [32] l st' wr hrd (by omega) (by simp)).mono ?_
   rintro e w5 (⟨r5, hc, rfl, hr5, hg5⟩ | ⟨hc, rfl, hk5⟩)
   case inr =>
    go_wp2
    exact ⟨rfl, Or.inr ⟨by rw [hsp'.out, hc]; rfl, rfl, hkw.trans hk5⟩⟩
   have H5 : Hid (operK f st s = ((f st' r5).bind fun p => (Code.kidsS f (N - (j + 1)) p.2.1 p.2.2).map fun q => (p.1 :: q.1, q.2)).bind fun p => (Code.cut [41] p.2.2).map fun r => (k, ts ++ p.1, p.2.1, r)) := by
    rw [hsp'.out, hc]; exact rfl
   have l5 := Code.cut_length hc
   have hk5 : Kin wr w5 rb B := Kin.grown hg5
   have hkw5 := hkw.trans hk5
   obtain ⟨X5, hX5⟩ := hrd.rd
   have hts5 : RepTs w5 (g + 1) false (L st') vs ts := RepTs.kept (hk5.keeps hX5) (Nat.le_refl _) (fun _ _ h => h) ts vs hts
   have hrow5 : kidRow w5 g 262 vs (N - j) := kept_block hrow hg5 hgne
   have hz5 := hkw5.size
   have hzz := hk5.size
   have HTS := hide hts5
   clear hc hsp' hts hrow hk5 hg5 hrd hX5 hts5
   go_wp2_with fail
   refine (HK.out rb B r5 l st' w5 hr5 (by omega) (by omega) (hkw5.tab hrb hB HT.out) hrb hB (by omega)).mono ?_
   rintro e w6 (⟨t6, st6, r6, v6, hc, rfl, hr6, hrep6, hk6⟩ | ⟨hc, rfl, hk6⟩)
   case inr =>
    go_wp2
    exact ⟨rfl, Or.inr ⟨by rw [H5.out, hc]; rfl, rfl, hkw5.trans hk6⟩⟩
   obtain ⟨T6, x6, rfl⟩ := hrep6.shape
   have H6 : Hid (operK f st s = (Code.kidsS f (N - (j + 1)) st6 r6).bind fun p => (Code.cut [41] p.2.2).map fun r => (k, ts ++ [t6] ++ p.1, p.2.1, r)) := by
    rw [H5.out, hc]
    refine hide ?_
    simp only [Option.bind_some]
    cases Code.kidsS f (N - (j + 1)) st6 r6 with
    | none => rfl
    | some q => simp
   obtain ⟨n6, l6⟩ := HN.out _ _ _ _ _ hc
   have hmono6 := HL.out _ _ _ _ _ hc
   obtain ⟨X6, hX6⟩ := hr5.rd
   have hts6 : RepTs w6 (g + 1) false (L st6) vs ts := RepTs.kept (hk6.keeps hX6) (Nat.le_refl _) hmono6 ts vs HTS.out
   have hrow6 : kidRow w6 g 262 vs (N - j) := hk6.block g _ hrow5 hgne (Or.inr (by intro C z h; simp only [Obj.cells.injEq] at h; exact absurd h.2.1 (by decide)))
   have hrep : RepT w6 (g + 1) false (L st6) (.iface T6 x6) t6 := RepT.kept (keeps_refl _ _) (by omega) (fun _ _ h => h) t6 _ hrep6
   have HR6 := hide (RepTs.snoc hts6 hrep)
   have hc6 : w6.cell? ⟨g, j, none⟩ = some .nilIface := blk_cell hrow6 j _ (by rw [show N - j = (N - (j + 1)) + 1 by omega, <- hvl]; simp [List.replicate_succ])
   have hf6 := blk_froz hrow6 j
   have hjl : (j : Int) < (N : Int) := by omega
   have hkw6 := hkw5.trans hk6
   have HROW := hide hrow6
   clear hc H5 hts6 hrep hrep6 hmono6 HTS hX6 hr5 hrow5 hrow6 hkw hkw5 hk6
   go_wp2
   have hrow6 := HROW.out
   refine ⟨⟨j + 1, vs ++ [.iface T6 x6], ts ++ [t6], st6, r6, by omega, by simp [hvl], by go_num, ?_, hr6.set hrow6 (by decide) (by decide), by omega, by omega, hkw6.set_new (by omega) _ _, ?_, H6⟩, by simp [intOf]; omega⟩
   ·rw [show N - j = (N - (j + 1)) + 1 by omega] at hrow6
    have h := hrow6.set (.iface T6 x6)
    rw [hvl] at h
    exact h
   ·exact RepTs.kept (keeps_set (by omega)) (Nat.le_refl _) (fun _ _ h => h) _ _ HR6.out
  ·have hjn : j = N := by omega
   have HD : Hid (operK f st s = (Code.cut [41] t).map fun r => (k, ts, st', r)) := by
    rw [hsp.out, hjn]
    simp [Hid, Code.kidsS]
   have HR : Hid (kidRow wr g 262 vs 0) := by
    have h := hrow
    rw [hjn, Nat.sub_self] at h
    exact h
   have HTS := hide hts
   obtain ⟨X5, hX5⟩ := hrd.rd
   clear hsp hrow hts
   go_wp2_with fail
   refine (take_rdr rb B t [41] l st' wr hrd (by omega) (by simp)).mono ?_
   rintro e w5 (⟨r5, hc, rfl, hr5, hg5⟩ | ⟨hc, rfl, hk5⟩)
   case inr =>
    go_wp2
    exact ⟨rfl, Or.inr ⟨by rw [HD.out, hc]; rfl, rfl, hkw.trans hk5⟩⟩
   have hk5 : Kin wr w5 rb B := Kin.grown hg5
   have H5 : Hid (operK f st s = some (k, ts, st', r5)) := by rw [HD.out, hc]; exact rfl
   have HO : Hid (w5.ownsRow w.heap.size 262 1 (.slice (some ⟨g, 0, none⟩) N N) vs.length vs) := (kidRow.own (kept_block HR.out hg5 hgne) (by omega) (by omega) (by omega))
   have HT5 : Hid (RepTs w5 w.heap.size false (L st') vs ts) := RepTs.kept (hk5.keeps hX5) (by omega) (fun _ _ h => h) ts vs HTS.out
   clear hc HD hX5
   go_wp2
   go_ret2
   exact Or.inl ⟨k, ts, st', r5, _, vs, H5.out, hk13, rfl, hr5, by rw [hNN]; omega, HO.out, HT5.out, hkw.trans hk5⟩
theorem operPart_deep (fv : Value) (rb B : Nat) (s : List UInt8) (l : Int) (st : RSt) (w : World) (hr : Rdr w rb B s l st) (hs : s.length <= 3000) (ht : Tab w) (hrb : 0 < rb) (hB : 0 < B) :
  Calls Tryz.prog 146 #[.pointer (some ⟨rb, 0, none⟩), .int .i64 5, fv] w fun e w' => FailsK w rb B l 6 e w' := by
 have HT := hide ht
 clear ht
 go_enter Tryz.func146, Tryz.ntmps146
 go_wp2_with fail
 refine (take_rdr rb B s [40] l st w hr hs (by simp)).mono ?_
 rintro e w1 (⟨s1, hc, rfl, hr1, hg1⟩ | ⟨hc, rfl, hk1⟩)
 case inr =>
  go_wp2
  exact ⟨rfl, rfl, hk1⟩
 have l1 := Code.cut_length hc
 clear hc
 have hk1 : Kin w w1 rb B := Kin.grown hg1
 go_wp2_with fail
 refine (letters_rdr rb B s1 l st w1 hr1 (by omega)).mono ?_
 rintro e w2 ⟨rfl, hr2, hg2⟩
 have hk2 : Kin w w2 rb B := hk1.trans (Kin.grown hg2)
 generalize Code.behind s1 = s2 at *
 generalize Code.word s1 = ww at *
 go_wp2_with fail
 refine (opNamed_any ww w2 (hk2.tab hrb hB HT.out)).mono ?_
 rintro e w3 ⟨⟨k, hk13, hc, rfl⟩ | ⟨hc, rfl⟩, hb3⟩
 all_goals
  have hr3 := hr2.below hb3
  have hk3 := hk2.trans (Kin.below (rb := rb) (B := B) hb3)
  clear hc
  go_wp2_with fail
  refine (fail_rdr rb B _ l st w3 hr3).mono ?_
  rintro e w4 ⟨rfl, hk4⟩
  go_wp2
  exact ⟨rfl, rfl, hk3.trans hk4⟩
theorem operResult_deep (fv : Value) (rb B : Nat) (s : List UInt8) (l : Int) (st : RSt) (w : World) (hr : Rdr w rb B s l st) (hs : s.length <= 3000) (ht : Tab w) (hrb : 0 < rb) (hB : 0 < B) :
  Calls Tryz.prog 151 #[.pointer (some ⟨rb, 0, none⟩), .int .i64 5, fv] w fun e w' => FailsK w rb B l 6 e w' := by
 have HT := hide ht
 clear ht
 go_enter Tryz.func151, Tryz.ntmps151
 go_wp2_with fail
 refine (take_rdr rb B s [40] l st w hr hs (by simp)).mono ?_
 rintro e w1 (⟨s1, hc, rfl, hr1, hg1⟩ | ⟨hc, rfl, hk1⟩)
 case inr =>
  go_wp2
  exact ⟨rfl, rfl, hk1⟩
 have l1 := Code.cut_length hc
 clear hc
 have hk1 : Kin w w1 rb B := Kin.grown hg1
 go_wp2_with fail
 refine (letters_rdr rb B s1 l st w1 hr1 (by omega)).mono ?_
 rintro e w2 ⟨rfl, hr2, hg2⟩
 have hk2 : Kin w w2 rb B := hk1.trans (Kin.grown hg2)
 generalize Code.behind s1 = s2 at *
 generalize Code.word s1 = ww at *
 go_wp2_with fail
 refine (opNamed_any ww w2 (hk2.tab hrb hB HT.out)).mono ?_
 rintro e w3 ⟨⟨k, hk13, hc, rfl⟩ | ⟨hc, rfl⟩, hb3⟩
 all_goals
  have hr3 := hr2.below hb3
  have hk3 := hk2.trans (Kin.below (rb := rb) (B := B) hb3)
  clear hc
  go_wp2_with fail
  refine (fail_rdr rb B _ l st w3 hr3).mono ?_
  rintro e w4 ⟨rfl, hk4⟩
  go_wp2
  exact ⟨rfl, rfl, hk3.trans hk4⟩
end Go.Proofs.YtedkjanogjglkaaGreatDoor
