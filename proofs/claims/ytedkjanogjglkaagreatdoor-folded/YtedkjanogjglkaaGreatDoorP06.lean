/-
  Parts of the proof: CAhead3, CPhisMade.
-/
import Derived.Test.YtedkjanogjglkaaGreatDoorP05
set_option maxRecDepth 100000
set_option maxHeartbeats 8000000
namespace Go.Proofs.YtedkjanogjglkaaGreatDoor
open Go.RowKit
theorem undrewB {a w : World} (h : Below a.drew.heap.size a.drew w) : Below a.heap.size a w := ⟨h.os, h.tape, h.output, h.size, h.block⟩
theorem unallocB {a w : World} {o : Obj} (h : Below (a.drew.alloc o).heap.size (a.drew.alloc o) w) : Below a.heap.size a w :=
 ⟨h.os, h.tape, h.output, Nat.le_trans (by rw [alloc_size]; exact Nat.le_succ a.heap.size) h.size, fun k hk => (h.block k (by rw [alloc_size]; exact Nat.lt_succ_of_lt hk)).trans (Below.heap_alloc a.drew o k hk)⟩
theorem cut2 {α β : Type} {G : Prop} (H : α -> β -> Prop) {P : α -> β -> Prop} (first : (∀ a b, H a b -> P a b) -> G) (rest : ∀ a b, H a b -> P a b) : G := first rest
def chN : Value -> Nat
 | .bool true => 1
 | _ => 0
theorem sets_get (A : Code.Sets) (j : Nat) (h : j < A.length) : A.getD j [] = A[j] := by rw [List.getD_eq_getElem?_getD, List.getElem?_eq_getElem h]; rfl
theorem madeAhead_any (args : Nat) (bks : List Code.Blk) (p : Option Addr) (c : Nat) (base : Nat) (w : World) (hf : RepBlks w base (.slice p bks.length c) bks) (hn : bks.length <= 8) (hn0 : 0 < bks.length) (hl : ∀ b ∈ bks, b.values.length <= 100000 /\ ∀ v ∈ b.values, v.num < 60) (ht : ∀ b ∈ bks, ∀ t ∈ Code.tg b.last, t < bks.length) :
  Calls Tryz.prog 164 #[.agg #[.int .i64 (args : Nat), .slice p bks.length c]] w fun e w' =>
   ∃ g A, e = .returned (.slice (some ⟨g, 0, none⟩) bks.length bks.length) /\ w.heap.size <= g /\ A.length = bks.length /\ All60 A /\ setsRow w' g A /\ Code.Iter bks (Code.startTo bks.length bks.length) A /\ Below w.heap.size w w' := by
 obtain ⟨i0, hi, hi0, hi1, hi2⟩ := info_parts infoSet
 have HF := hide hf
 have HTG := hide ht
 have HL := hide hl
 clear hf ht hl
 go_enter Tryz.func164, Tryz.ntmps164
 go_wp2_with (first | (at_make; refine wpList_make_full _ rfl _ _ 285 rfl w.heap.size 281 i0 (.agg (setA noNumber)) 60 Tryz.underlying285 hi hi0 hi1 .i64 .i64 _ _ bks.length rfl rfl rfl rfl (by rw [hi2]; omega) (by unfold maxLen; omega) (by simp) ?_; intro w2 hown2 hgrow2; have hnr2 := setsRow_made hown2; rw [alloc_size] at hnr2; have hbx : w2.heap[w.heap.size]? = some (.cells #[.int .i64 (args : Nat), .slice p bks.length c] 78) := (hgrow2.block _ (by simp) (by simp)).trans (heap_alloc_new w _)))
 have hb2 : Below w.heap.size w w2 := by
  have h := below_al (Below.refl w.heap.size w) (.cells #[.int .i64 (args : Nat), .slice p bks.length c] 78)
  exact h.trans ⟨hgrow2.os, hgrow2.tape, hgrow2.output, hgrow2.size, fun k hk => hgrow2.block k (by simp; omega) (by simp)⟩
 clear hown2 hgrow2
 go_loopw [4] (fun i wr => ∃ k : Nat, 1 <= k /\ k <= bks.length /\ i = .int .i64 k /\ setsRow wr (w.heap.size + 1) (Code.startTo bks.length k) /\ wr.heap[w.heap.size]? = some (.cells #[.int .i64 (args : Nat), .slice p bks.length c] 78) /\ Below w.heap.size w wr) (fun i _ => bks.length - (intOf i).toNat)
 case atStart => exact ⟨1, by omega, hn0, rfl, by rw [Code.startTo_one]; exact hnr2, hbx, hb2⟩
 case round =>
  obtain ⟨k, hk1, hk, rfl, hrw, hx, hbw⟩ := hrel
  clear hnr2 hbx hb2
  have hz := hbw.size
  have h6 : All60 (Code.startTo bks.length k) := by
   intro R hR
   obtain ⟨i, _, rfl⟩ := List.mem_map.1 hR
   split <;> rfl
  by_cases hlt : k < bks.length
  ·have hkl : (k : Int) < (bks.length : Int) := by omega
   go_wp2_with fail
   refine (everyNumber_any wr).mono ?_
   rintro e w3 ⟨rfl, hb3⟩
   have hrw3 : setsRow w3 (w.heap.size + 1) (Code.startTo bks.length k) := (hb3.block _ (lt_of_block hrw)).trans hrw
   have hx3 := (hb3.block _ (lt_of_block hx)).trans hx
   have HS := hide (Code.startTo_set bks.length k hk1)
   have HTH := hide (hrw3.there h6 k (by rw [Code.startTo_length]; exact hlt))
   have HL' := hide (setSize' (List.replicate 60 true) (by simp))
   have HO := hide (setOne (List.replicate 60 true))
   have HP := hide (hrw3.put h6 k (by rw [Code.startTo_length]; exact hlt) (List.replicate 60 true) (by simp))
   generalize hRR : List.replicate 60 true = R at *
   have hR60 : (setA R).size = 60 := by rw [<- hRR]; simp [setA_size]
   go_wp2_with (first | (refine wpList_store_mid rfl 281 _ _ rfl (w.heap.size + 1) (k * 60) (setA R) rfl rfl ?_ HL'.out HO.out ?_; (rw [hR60]; exact HTH.out)))
   refine ⟨⟨k + 1, by omega, by omega, by go_num, ?_, stay_cells hx3 (by omega), below_cells (hbw.trans (hb3.mono hz)) (by omega) _ _⟩, by simp [intOf]; omega⟩
   have h := HP.out
   have hE : R = Code.everyNumber := hRR.symm
   rw [hE] at h ⊢
   rw [<- HS.out]
   exact h
  ·have hkn : k = bks.length := by omega
   subst hkn
   clear hlt
   have h6' := h6
   have hrw' := hrw
   have hlA := Code.startTo_length bks.length bks.length
   have HI : Hid (∀ B, Code.Iter bks (Code.startTo bks.length bks.length) B -> Code.Iter bks (Code.startTo bks.length bks.length) B) := hide fun _ h => h
   generalize hA0 : Code.startTo bks.length bks.length = A0 at *
   go_wp2_with fail
   rename World => wo
   go_loopw [5] (fun ch wr => ∃ (A : Code.Sets) (b : Bool), ch = .bool b /\ A.length = bks.length /\ All60 A /\ setsRow wr (w.heap.size + 1) A /\ wr.heap[w.heap.size]? = some (.cells #[.int .i64 (args : Nat), .slice p bks.length c] 78) /\ Below w.heap.size w wr /\
     Hid ((b = true -> ∀ B, Code.Iter bks A B -> Code.Iter bks A0 B) /\ (b = false -> Code.Iter bks A0 A))) (fun ch wr => 2 * wtrues wr (w.heap.size + 1) + chN ch)
   case atStart => exact ⟨A0, true, rfl, hlA, h6', hrw', hx, hbw, hide ⟨fun _ => HI.out, fun h => by cases h⟩⟩
   case round =>
    obtain ⟨A, b, rfl, hA, hA6, hrA, hxA, hbA, hsp⟩ := hrel
    clear hrw hrw' hx hbw h6 h6' HI
    cases b with
    | false =>
     have HIT := hide (hsp.out.2 rfl)
     clear hsp
     go_wp2
     go_ret
     exact ⟨w.heap.size + 1, A, rfl, by omega, hA, hA6, hrA, hA0 ▸ HIT.out, hbA⟩
    | true =>
     have hm0 := hide (wtrues_row hrA)
     have HIT := hide (hsp.out.1 rfl)
     have hxc := blk_cell hxA 1 _ rfl
     clear hsp
     obtain ⟨p', c', hpe, hblk⟩ := HF.out.open
     simp only [Value.slice.injEq] at hpe
     obtain ⟨rfl, _, rfl⟩ := hpe
     have HBLK := hide hblk
     clear hblk
     go_wp2_with fail
     clear hxc
     rename World => wq
     go_loopw [5, 30] (fun ch i wr => ∃ (j : Nat) (st : Code.Sets × Bool), j <= bks.length /\ i = .int .i64 j /\ ch = .bool st.2 /\ Code.Along bks.length A st /\ setsRow wr (w.heap.size + 1) st.1 /\ wr.heap[w.heap.size]? = some (.cells #[.int .i64 (args : Nat), .slice p bks.length c] 78) /\ Below w.heap.size w wr /\
       Hid (Code.passGo (bks.drop j) j st = Code.pass bks A)) (fun _ i _ => bks.length - (intOf i).toNat)
     case atStart => exact ⟨0, (A, false), by omega, rfl, rfl, ⟨hA, hA6, Nat.le_refl _, fun h => by cases h⟩, hrA, hxA, hbA, hide rfl⟩
     case round =>
      obtain ⟨j, st, hj, rfl, rfl, hal, hrs, hxs, hbs, hsp⟩ := hrel
      clear hrA hxA hbA
      have hzs := hbs.size
      have hl1 := lt_of_block hrs
      by_cases hlt : j < bks.length
      ·obtain ⟨gb, vs, rfl, hg, c0, c1, hvs⟩ := HBLK.out j hlt
       obtain ⟨hlen, hnum⟩ := HL.out bks[j] (List.getElem_mem hlt)
       have HNUM := hide hnum
       obtain ⟨pv, cv, rfl, hval⟩ := hvs.open
       clear hval hnum
       have c0' : wr.cell? ⟨gb, j * 2, none⟩ = some (.slice pv bks[j].values.length cv) := by rw [(bcell hbs).1 gb _ hg]; exact c0
       obtain ⟨T, zv, hzv⟩ := lastV_shape bks[j].last
       have c1' : wr.cell? ⟨gb, j * 2 + 1, none⟩ = some (.iface T zv) := by rw [(bcell hbs).1 gb _ hg, <- hzv]; exact c1
       have HTA := hide (targets_any bks[j].last)
       rw [hzv] at HTA
       have htb : ∀ t ∈ Code.tg bks[j].last, t < bks.length := HTG.out bks[j] (List.getElem_mem hlt)
       have htl := Code.tg_length bks[j].last
       have hjst : j < st.1.length := by rw [hal.len]; exact hlt
       have HSP : Hid (Code.passGo (bks.drop (j + 1)) (j + 1) ((Code.tg bks[j].last).foldl (Code.stepT (Code.addAll st.1[j] bks[j].values)) st) = Code.pass bks A) := by
        have h := hsp.out
        rw [List.drop_eq_getElem_cons hlt] at h
        have h2 : Code.passGo (bks.drop (j + 1)) (j + 1) (Code.stepB st j bks[j]) = Code.pass bks A := h
        rw [Code.stepB, sets_get st.1 j hjst] at h2
        exact h2
       have HVS := hide hvs
       have hR60 : st.1[j].length = 60 := hal.all _ (List.getElem_mem hjst)
       have hE60 : (Code.addAll st.1[j] bks[j].values).length = 60 := by rw [Code.addAll_length]; exact hR60
       have HRG := hide (hrs.range hal.all j hjst)
       generalize Code.tg bks[j].last = tl at *
       generalize bks[j].values = vals at *
       generalize hRj : st.1[j] = Rj at *
       clear c0 c1 hvs hsp hzv
       go_wp2_with fail
       generalize hw3 : wr.alloc _ = w3
       have hb3 : Below w.heap.size w w3 := by rw [<- hw3]; exact below_al hbs _
       have hrs3 : setsRow w3 (w.heap.size + 1) st.1 := by rw [<- hw3]; exact stay_alloc hrs
       have hxs3 : w3.heap[w.heap.size]? = some (.cells #[.int .i64 (args : Nat), .slice (some ⟨gb, 0, none⟩) bks.length c] 78) := by rw [<- hw3]; exact stay_alloc hxs
       have hcp3 : w3.heap[wr.heap.size]? = some (.cells #[.slice pv vals.length cv, .iface T zv] 165) := by rw [<- hw3]; exact heap_alloc_new wr _
       have hrg3 : w3.rangeAt (w.heap.size + 1) (j * 60) (setL Rj) := by have h := hrs3.range hal.all j hjst; rw [hRj] at h; exact h
       generalize hb7 : wr.heap.size = b7 at *
       have hgb7 : w.heap.size + 1 < b7 := by omega
       clear hw3 hrs hxs hbs c0' c1' HRG
       have hjl : (j : Int) < (bks.length : Int) := by omega
       have hj0 : (0 : Int) <= (j : Int) := by omega
       have HM := hide (fun (w' : World) (h : Below w.heap.size w w') => madeAtEnd_any Rj hR60 vals HNUM.out hlen (.slice pv vals.length cv) (.iface T zv) base w' (HVS.out.below h) ⟨_, _, rfl⟩)
       have d0 : ∀ w', Below w3.heap.size w3 w' -> w'.cell? ⟨b7, 0, none⟩ = some (.slice pv vals.length cv) := fun w' h => blk_cell ((h.block b7 (lt_of_block hcp3)).trans hcp3) 0 _ rfl
       have d1 : ∀ w', Below w3.heap.size w3 w' -> w'.cell? ⟨b7, 1, none⟩ = some (.iface T zv) := fun w' h => blk_cell ((h.block b7 (lt_of_block hcp3)).trans hcp3) 1 _ rfl
       have HRG5 : Hid (∀ w5, Below w3.heap.size w3 w5 -> w5.rangeAt (w.heap.size + 1) (j * 60) (setL Rj)) := hide fun w5 h5 => by
        have h := setsRow.range (w := w5) ((h5.block _ (lt_of_block hrs3)).trans hrs3) hal.all j hjst
        rw [hRj] at h
        exact h
       have hu := Tryz.underlying281
       have hi60 := setSize Rj hR60
       have hl60 : (setL Rj).length = 60 := by rw [setL_length]; exact hR60
       have hi60' := setSize' (Code.addAll Rj vals) hE60
       have hl60' : (setA (Code.addAll Rj vals)).size = 60 := by rw [setA_size]; exact hE60
       have ho60' : ∀ v ∈ (setA (Code.addAll Rj vals)).toList, v.oneCell' = true := fun v hv => by
        obtain ⟨b, _, rfl⟩ := List.mem_map.1 (show v ∈ setL (Code.addAll Rj vals) from hv)
        rfl
       have hth : ∀ w' : World, (w'.alloc (.cells #[.bool false, .bool false, .bool false, .bool false, .bool false, .bool false, .bool false, .bool false, .bool false, .bool false, .bool false, .bool false, .bool false, .bool false, .bool false, .bool false, .bool false, .bool false, .bool false, .bool false, .bool false, .bool false, .bool false, .bool false, .bool false, .bool false, .bool false, .bool false, .bool false, .bool false, .bool false, .bool false, .bool false, .bool false, .bool false, .bool false, .bool false, .bool false, .bool false, .bool false, .bool false, .bool false, .bool false, .bool false, .bool false, .bool false, .bool false, .bool false, .bool false, .bool false, .bool false, .bool false, .bool false, .bool false, .bool false, .bool false, .bool false, .bool false, .bool false, .bool false] 281)).there w'.heap.size 0 60 := fun w' => by
        have hnew : setRow (w'.alloc (.cells (setA noNumber) 281)) w'.heap.size noNumber := heap_alloc_new w' _
        exact hnew.there
       have HW1 : Hid (∀ w5, Below w3.heap.size w3 w5 -> setRow ((w5.alloc (.cells #[.bool false, .bool false, .bool false, .bool false, .bool false, .bool false, .bool false, .bool false, .bool false, .bool false, .bool false, .bool false, .bool false, .bool false, .bool false, .bool false, .bool false, .bool false, .bool false, .bool false, .bool false, .bool false, .bool false, .bool false, .bool false, .bool false, .bool false, .bool false, .bool false, .bool false, .bool false, .bool false, .bool false, .bool false, .bool false, .bool false, .bool false, .bool false, .bool false, .bool false, .bool false, .bool false, .bool false, .bool false, .bool false, .bool false, .bool false, .bool false, .bool false, .bool false, .bool false, .bool false, .bool false, .bool false, .bool false, .bool false, .bool false, .bool false, .bool false, .bool false] 281)).setCells w5.heap.size 0 (setA (Code.addAll Rj vals)).toList) w5.heap.size (Code.addAll Rj vals) /\ Below w3.heap.size w3 ((w5.alloc (.cells #[.bool false, .bool false, .bool false, .bool false, .bool false, .bool false, .bool false, .bool false, .bool false, .bool false, .bool false, .bool false, .bool false, .bool false, .bool false, .bool false, .bool false, .bool false, .bool false, .bool false, .bool false, .bool false, .bool false, .bool false, .bool false, .bool false, .bool false, .bool false, .bool false, .bool false, .bool false, .bool false, .bool false, .bool false, .bool false, .bool false, .bool false, .bool false, .bool false, .bool false, .bool false, .bool false, .bool false, .bool false, .bool false, .bool false, .bool false, .bool false, .bool false, .bool false, .bool false, .bool false, .bool false, .bool false, .bool false, .bool false, .bool false, .bool false, .bool false, .bool false] 281)).setCells w5.heap.size 0 (setA (Code.addAll Rj vals)).toList)) := hide fun w5 h5 => by
        have hnew : setRow (w5.alloc (.cells (setA noNumber) 281)) w5.heap.size noNumber := heap_alloc_new w5 _
        exact ⟨hnew.put _ (by rw [hE60]; rfl), below_cells (below_al h5 _) h5.size _ _⟩
       have HT2 : Hid (∀ w5, Below (w3.drew.alloc (.cells #[.bool false, .bool false, .bool false, .bool false, .bool false, .bool false, .bool false, .bool false, .bool false, .bool false, .bool false, .bool false, .bool false, .bool false, .bool false, .bool false, .bool false, .bool false, .bool false, .bool false, .bool false, .bool false, .bool false, .bool false, .bool false, .bool false, .bool false, .bool false, .bool false, .bool false, .bool false, .bool false, .bool false, .bool false, .bool false, .bool false, .bool false, .bool false, .bool false, .bool false, .bool false, .bool false, .bool false, .bool false, .bool false, .bool false, .bool false, .bool false, .bool false, .bool false, .bool false, .bool false, .bool false, .bool false, .bool false, .bool false, .bool false, .bool false, .bool false, .bool false] 281)).heap.size (w3.drew.alloc (.cells #[.bool false, .bool false, .bool false, .bool false, .bool false, .bool false, .bool false, .bool false, .bool false, .bool false, .bool false, .bool false, .bool false, .bool false, .bool false, .bool false, .bool false, .bool false, .bool false, .bool false, .bool false, .bool false, .bool false, .bool false, .bool false, .bool false, .bool false, .bool false, .bool false, .bool false, .bool false, .bool false, .bool false, .bool false, .bool false, .bool false, .bool false, .bool false, .bool false, .bool false, .bool false, .bool false, .bool false, .bool false, .bool false, .bool false, .bool false, .bool false, .bool false, .bool false, .bool false, .bool false, .bool false, .bool false, .bool false, .bool false, .bool false, .bool false, .bool false, .bool false] 281)) w5 -> setRow w5 w3.heap.size noNumber) := hide fun w5 h5 =>
        (h5.block _ (by rw [alloc_size]; exact Nat.lt_succ_self w3.heap.size)).trans (heap_alloc_new w3.drew _)
       have HW2 : Hid (∀ w5, Below (w3.drew.alloc (.cells #[.bool false, .bool false, .bool false, .bool false, .bool false, .bool false, .bool false, .bool false, .bool false, .bool false, .bool false, .bool false, .bool false, .bool false, .bool false, .bool false, .bool false, .bool false, .bool false, .bool false, .bool false, .bool false, .bool false, .bool false, .bool false, .bool false, .bool false, .bool false, .bool false, .bool false, .bool false, .bool false, .bool false, .bool false, .bool false, .bool false, .bool false, .bool false, .bool false, .bool false, .bool false, .bool false, .bool false, .bool false, .bool false, .bool false, .bool false, .bool false, .bool false, .bool false, .bool false, .bool false, .bool false, .bool false, .bool false, .bool false, .bool false, .bool false, .bool false, .bool false] 281)).heap.size (w3.drew.alloc (.cells #[.bool false, .bool false, .bool false, .bool false, .bool false, .bool false, .bool false, .bool false, .bool false, .bool false, .bool false, .bool false, .bool false, .bool false, .bool false, .bool false, .bool false, .bool false, .bool false, .bool false, .bool false, .bool false, .bool false, .bool false, .bool false, .bool false, .bool false, .bool false, .bool false, .bool false, .bool false, .bool false, .bool false, .bool false, .bool false, .bool false, .bool false, .bool false, .bool false, .bool false, .bool false, .bool false, .bool false, .bool false, .bool false, .bool false, .bool false, .bool false, .bool false, .bool false, .bool false, .bool false, .bool false, .bool false, .bool false, .bool false, .bool false, .bool false, .bool false, .bool false] 281)) w5 -> setRow (w5.setCells w3.heap.size 0 (setA (Code.addAll Rj vals)).toList) w3.heap.size (Code.addAll Rj vals) /\ Below w3.heap.size w3 (w5.setCells w3.heap.size 0 (setA (Code.addAll Rj vals)).toList)) := hide fun w5 h5 =>
        ⟨(HT2.out w5 h5).put _ (by rw [hE60]; rfl), below_cells (unallocB h5) (Nat.le_refl _) _ _⟩
       generalize setA (Code.addAll Rj vals) = EA at *
       apply cut2 (fun (W : World) (b8 : Nat) => setRow W b8 (Code.addAll Rj vals) /\ Below w3.heap.size w3 W /\ w3.heap.size <= b8)
       ·intro key
        go_region_held3 (fun w' => Below w3.heap.size w3 w' /\ w'.rangeAt (w.heap.size + 1) (j * 60) (setL Rj)) (first | assumption | (go_split_ands; (try dsimp only); refine ⟨?_, HRG5.out _ ?_⟩ <;> (repeat' (first | assumption | exact Below.refl _ _ | apply Below.drew | apply below_al | apply below_cells | exact Nat.le_refl _ | exact Below.size (by assumption))))) (first | (go_at_call 203; refine (HM.out _ ?_).mono ?_; (repeat' (first | exact hb3 | apply Below.drew | apply below_al)); rintro e w5 ⟨rfl, hb5⟩; have hb5' : Below w3.heap.size w3 w5 := (by first | exact undrewB hb5 | exact unallocB hb5); first | (have ht5 : w5.there w3.heap.size 0 60 := (HT2.out w5 hb5).there) | skip))
        all_goals
         first
          | (refine (fun hW => ?_) (HW2.out w5 hb5)
             obtain ⟨hW1, hW2⟩ := hW
             generalize w5.setCells w3.heap.size 0 EA.toList = W at hW1 hW2 ⊢
             generalize hb8 : w3.heap.size = b8 at hW1 ⊢
             have hge : w3.heap.size <= b8 := Nat.le_of_eq hb8
             exact key W b8 ⟨hW1, hW2, hge⟩)
          | (obtain ⟨hW1, hW2⟩ := HW1.out w5 hb5'
             generalize (w5.alloc (.cells #[.bool false, .bool false, .bool false, .bool false, .bool false, .bool false, .bool false, .bool false, .bool false, .bool false, .bool false, .bool false, .bool false, .bool false, .bool false, .bool false, .bool false, .bool false, .bool false, .bool false, .bool false, .bool false, .bool false, .bool false, .bool false, .bool false, .bool false, .bool false, .bool false, .bool false, .bool false, .bool false, .bool false, .bool false, .bool false, .bool false, .bool false, .bool false, .bool false, .bool false, .bool false, .bool false, .bool false, .bool false, .bool false, .bool false, .bool false, .bool false, .bool false, .bool false, .bool false, .bool false, .bool false, .bool false, .bool false, .bool false, .bool false, .bool false, .bool false, .bool false] 281)).setCells w5.heap.size 0 EA.toList = W at hW1 hW2 ⊢
             have hge : w3.heap.size <= w5.heap.size := hb5'.size
             generalize w5.heap.size = b8 at hW1 hge ⊢
             exact key W b8 ⟨hW1, hW2, hge⟩)
       ·rintro W b8 ⟨hW1, hW2, hge⟩
        have hbW : Below w.heap.size w W := hb3.trans (hW2.mono hb3.size)
        have hrsW : setsRow W (w.heap.size + 1) st.1 := (hW2.block _ (lt_of_block hrs3)).trans hrs3
        have hxsW := (hW2.block _ (lt_of_block hxs3)).trans hxs3
        have hcpW := (hW2.block _ (lt_of_block hcp3)).trans hcp3
        have hb7lt := lt_of_block hcp3
        clear hrs3 hxs3 hcp3 hrg3 hW2 HW1 HW2 HT2 hth HRG5 hi60 hl60 hi60' hl60' ho60' d0 d1
        have d1 := blk_cell hcpW 1 _ rfl
        generalize hE : Code.addAll Rj vals = E at *
        go_wp2_with fail
        refine (HTA.out W).mono ?_
        rintro e w6 ⟨v6, rfl, hown6, hb6⟩
        have hsz6 := hb6.size
        have hbw6 : Below w.heap.size w w6 := hbW.trans (hb6.mono hbW.size)
        have hrs6 : setsRow w6 (w.heap.size + 1) st.1 := (hb6.block _ (lt_of_block hrsW)).trans hrsW
        have hxs6 := (hb6.block _ (lt_of_block hxsW)).trans hxsW
        have hE6 : setRow w6 b8 E := (hb6.block _ (lt_of_block hW1)).trans hW1
        have hb8W := lt_of_block hW1
        clear hrsW hxsW hcpW hW1 hbW hb6 d1 hb3
        obtain ⟨p6, c6, rfl, _⟩ := nats_open hown6
        go_wp2_with fail
        rename World => wz
        go_loopw [5, 45] (fun ch i wr => ∃ (k : Nat) (st' : Code.Sets × Bool), k <= tl.length /\ i = .int .i64 k /\ ch = .bool st'.2 /\ Code.Along bks.length A st' /\ setsRow wr (w.heap.size + 1) st'.1 /\ setRow wr b8 E /\ wr.ownsRow W.heap.size 3 1 (.slice p6 tl.length c6) tl.length (nats tl) /\
          wr.heap[w.heap.size]? = some (.cells #[.int .i64 (args : Nat), .slice (some ⟨gb, 0, none⟩) bks.length c] 78) /\ Below w.heap.size w wr /\
          Hid (Code.passGo (bks.drop (j + 1)) (j + 1) ((tl.drop k).foldl (Code.stepT E) st') = Code.pass bks A)) (fun _ i _ => tl.length - (intOf i).toNat)
        case atStart => exact ⟨0, st, by omega, rfl, rfl, hal, hrs6, hE6, hown6, hxs6, hbw6, HSP⟩
        case round =>
         obtain ⟨k, st', hk, rfl, rfl, hal', hrk, hEk, hownk, hxk, hbk, hspk⟩ := hrel
         clear hrs6 hE6 hown6 hxs6 hbw6 HSP
         have hzk := hbk.size
         by_cases hkt : k < tl.length
         ·obtain ⟨p7, c7, hpe, hval7⟩ := nats_open hownk
          simp only [Value.slice.injEq] at hpe
          obtain ⟨rfl, _, rfl⟩ := hpe
          obtain ⟨g7, rfl, ct⟩ := hval7 k hkt
          clear hval7
          have htk := htb tl[k] (List.getElem_mem hkt)
          have HSN : Hid (Code.passGo (bks.drop (j + 1)) (j + 1) ((tl.drop (k + 1)).foldl (Code.stepT E) (Code.stepT E st' tl[k])) = Code.pass bks A) := by
           have h := hspk.out
           rw [List.drop_eq_getElem_cons hkt] at h
           exact h
          have hals := hal'.step hE60 htk
          have HALS := hide hals
          have htst : tl[k] < st'.1.length := by rw [hal'.len]; exact htk
          have hgd := sets_get st'.1 tl[k] htst
          have hRt60 : st'.1[tl[k]].length = 60 := hal'.all _ (List.getElem_mem htst)
          have HST : Hid (Code.stepT E st' tl[k] = (st'.1.set tl[k] (Code.both st'.1[tl[k]] E), st'.2 || !(Code.both st'.1[tl[k]] E == st'.1[tl[k]]))) := by
           refine hide ?_
           rw [Code.stepT, hgd]
          have HRGt : Hid (∀ w5, setsRow w5 (w.heap.size + 1) st'.1 -> w5.rangeAt (w.heap.size + 1) (tl[k] * 60) (setL st'.1[tl[k]]) /\ w5.there (w.heap.size + 1) (tl[k] * 60) 60) := hide fun w5 h5 => ⟨h5.range hal'.all _ htst, h5.there hal'.all _ htst⟩
          have HPUT : Hid (∀ w5 R', R'.length = 60 -> setsRow w5 (w.heap.size + 1) st'.1 -> setsRow (w5.setCells (w.heap.size + 1) (tl[k] * 60) (setL R')) (w.heap.size + 1) (st'.1.set tl[k] R')) := hide fun w5 R' hR' h5 => h5.put hal'.all _ htst R' hR'
          have hB60 := Code.both_length hRt60 hE60
          clear hgd hals hspk
          generalize hRt : st'.1[tl[k]] = Rt at *
          generalize hBB : Code.both Rt E = B at *
          generalize tl[k] = tk at *
          have htl' : (tk : Int) < (bks.length : Int) := by omega
          have ht0 : (0 : Int) <= (tk : Int) := by omega
          have hgl := lt_of_block hrk
          have hb8l := lt_of_block hEk
          have hb8n : b8 ≠ w.heap.size + 1 := by omega
          have HM2 := hide (both_any Rt E hRt60 hE60)
          rw [hBB] at HM2
          have HRG5 : Hid (∀ w5, Below wr.heap.size wr w5 -> w5.rangeAt (w.heap.size + 1) (tk * 60) (setL Rt) /\ w5.rangeAt b8 0 (setL E)) := hide fun w5 h5 =>
           ⟨(HRGt.out w5 ((h5.block _ hgl).trans hrk)).1, setRow.range (w := w5) ((h5.block _ hb8l).trans hEk)⟩
          obtain ⟨hrg1, hrg2⟩ := HRG5.out wr (Below.refl _ _)
          have hu := Tryz.underlying281
          have hi60 := setSize Rt hRt60
          have hi60e := setSize E hE60
          have hl60 : (setL Rt).length = 60 := by rw [setL_length]; exact hRt60
          have hl60e : (setL E).length = 60 := by rw [setL_length]; exact hE60
          have hi60' := setSize' B hB60
          have hl60' : (setA B).size = 60 := by rw [setA_size]; exact hB60
          have ho60' : ∀ v ∈ (setA B).toList, v.oneCell' = true := fun v hv => by
           obtain ⟨b, _, rfl⟩ := List.mem_map.1 (show v ∈ setL B from hv)
           rfl
          have hth : ∀ w' : World, (w'.alloc (.cells #[.bool false, .bool false, .bool false, .bool false, .bool false, .bool false, .bool false, .bool false, .bool false, .bool false, .bool false, .bool false, .bool false, .bool false, .bool false, .bool false, .bool false, .bool false, .bool false, .bool false, .bool false, .bool false, .bool false, .bool false, .bool false, .bool false, .bool false, .bool false, .bool false, .bool false, .bool false, .bool false, .bool false, .bool false, .bool false, .bool false, .bool false, .bool false, .bool false, .bool false, .bool false, .bool false, .bool false, .bool false, .bool false, .bool false, .bool false, .bool false, .bool false, .bool false, .bool false, .bool false, .bool false, .bool false, .bool false, .bool false, .bool false, .bool false, .bool false, .bool false] 281)).there w'.heap.size 0 60 := fun w' => by
           have hnew : setRow (w'.alloc (.cells (setA noNumber) 281)) w'.heap.size noNumber := heap_alloc_new w' _
           exact hnew.there
          have HW1 : Hid (∀ w5, Below wr.heap.size wr w5 -> setRow ((w5.alloc (.cells #[.bool false, .bool false, .bool false, .bool false, .bool false, .bool false, .bool false, .bool false, .bool false, .bool false, .bool false, .bool false, .bool false, .bool false, .bool false, .bool false, .bool false, .bool false, .bool false, .bool false, .bool false, .bool false, .bool false, .bool false, .bool false, .bool false, .bool false, .bool false, .bool false, .bool false, .bool false, .bool false, .bool false, .bool false, .bool false, .bool false, .bool false, .bool false, .bool false, .bool false, .bool false, .bool false, .bool false, .bool false, .bool false, .bool false, .bool false, .bool false, .bool false, .bool false, .bool false, .bool false, .bool false, .bool false, .bool false, .bool false, .bool false, .bool false, .bool false, .bool false] 281)).setCells w5.heap.size 0 (setA B).toList) w5.heap.size B /\ Below wr.heap.size wr ((w5.alloc (.cells #[.bool false, .bool false, .bool false, .bool false, .bool false, .bool false, .bool false, .bool false, .bool false, .bool false, .bool false, .bool false, .bool false, .bool false, .bool false, .bool false, .bool false, .bool false, .bool false, .bool false, .bool false, .bool false, .bool false, .bool false, .bool false, .bool false, .bool false, .bool false, .bool false, .bool false, .bool false, .bool false, .bool false, .bool false, .bool false, .bool false, .bool false, .bool false, .bool false, .bool false, .bool false, .bool false, .bool false, .bool false, .bool false, .bool false, .bool false, .bool false, .bool false, .bool false, .bool false, .bool false, .bool false, .bool false, .bool false, .bool false, .bool false, .bool false, .bool false, .bool false] 281)).setCells w5.heap.size 0 (setA B).toList)) := hide fun w5 h5 => by
           have hnew : setRow (w5.alloc (.cells (setA noNumber) 281)) w5.heap.size noNumber := heap_alloc_new w5 _
           exact ⟨hnew.put _ (by rw [hB60]; rfl), below_cells (below_al h5 _) h5.size _ _⟩
          have HT2 : Hid (∀ w5, Below (wr.drew.alloc (.cells #[.bool false, .bool false, .bool false, .bool false, .bool false, .bool false, .bool false, .bool false, .bool false, .bool false, .bool false, .bool false, .bool false, .bool false, .bool false, .bool false, .bool false, .bool false, .bool false, .bool false, .bool false, .bool false, .bool false, .bool false, .bool false, .bool false, .bool false, .bool false, .bool false, .bool false, .bool false, .bool false, .bool false, .bool false, .bool false, .bool false, .bool false, .bool false, .bool false, .bool false, .bool false, .bool false, .bool false, .bool false, .bool false, .bool false, .bool false, .bool false, .bool false, .bool false, .bool false, .bool false, .bool false, .bool false, .bool false, .bool false, .bool false, .bool false, .bool false, .bool false] 281)).heap.size (wr.drew.alloc (.cells #[.bool false, .bool false, .bool false, .bool false, .bool false, .bool false, .bool false, .bool false, .bool false, .bool false, .bool false, .bool false, .bool false, .bool false, .bool false, .bool false, .bool false, .bool false, .bool false, .bool false, .bool false, .bool false, .bool false, .bool false, .bool false, .bool false, .bool false, .bool false, .bool false, .bool false, .bool false, .bool false, .bool false, .bool false, .bool false, .bool false, .bool false, .bool false, .bool false, .bool false, .bool false, .bool false, .bool false, .bool false, .bool false, .bool false, .bool false, .bool false, .bool false, .bool false, .bool false, .bool false, .bool false, .bool false, .bool false, .bool false, .bool false, .bool false, .bool false, .bool false] 281)) w5 -> setRow w5 wr.heap.size noNumber) := hide fun w5 h5 =>
           (h5.block _ (by rw [alloc_size]; exact Nat.lt_succ_self wr.heap.size)).trans (heap_alloc_new wr.drew _)
          have HW2 : Hid (∀ w5, Below (wr.drew.alloc (.cells #[.bool false, .bool false, .bool false, .bool false, .bool false, .bool false, .bool false, .bool false, .bool false, .bool false, .bool false, .bool false, .bool false, .bool false, .bool false, .bool false, .bool false, .bool false, .bool false, .bool false, .bool false, .bool false, .bool false, .bool false, .bool false, .bool false, .bool false, .bool false, .bool false, .bool false, .bool false, .bool false, .bool false, .bool false, .bool false, .bool false, .bool false, .bool false, .bool false, .bool false, .bool false, .bool false, .bool false, .bool false, .bool false, .bool false, .bool false, .bool false, .bool false, .bool false, .bool false, .bool false, .bool false, .bool false, .bool false, .bool false, .bool false, .bool false, .bool false, .bool false] 281)).heap.size (wr.drew.alloc (.cells #[.bool false, .bool false, .bool false, .bool false, .bool false, .bool false, .bool false, .bool false, .bool false, .bool false, .bool false, .bool false, .bool false, .bool false, .bool false, .bool false, .bool false, .bool false, .bool false, .bool false, .bool false, .bool false, .bool false, .bool false, .bool false, .bool false, .bool false, .bool false, .bool false, .bool false, .bool false, .bool false, .bool false, .bool false, .bool false, .bool false, .bool false, .bool false, .bool false, .bool false, .bool false, .bool false, .bool false, .bool false, .bool false, .bool false, .bool false, .bool false, .bool false, .bool false, .bool false, .bool false, .bool false, .bool false, .bool false, .bool false, .bool false, .bool false, .bool false, .bool false] 281)) w5 -> setRow (w5.setCells wr.heap.size 0 (setA B).toList) wr.heap.size B /\ Below wr.heap.size wr (w5.setCells wr.heap.size 0 (setA B).toList)) := hide fun w5 h5 =>
           ⟨(HT2.out w5 h5).put _ (by rw [hB60]; rfl), below_cells (unallocB h5) (Nat.le_refl _) _ _⟩
          generalize hBA : setA B = BA at *
          go_wp2_with fail
          apply cut2 (fun (X : World) (b11 : Nat) => setRow X b11 B /\ Below wr.heap.size wr X /\ wr.heap.size <= b11)
          ·intro key2
           refine wp_region_held_drew (S := fun w' => Below wr.heap.size wr w' /\ w'.rangeAt (w.heap.size + 1) (tk * 60) (setL Rt) /\ w'.rangeAt b8 0 (setL E)) (by kernel_rfl) ⟨(Below.refl _ wr).drew, HRG5.out _ (Below.refl _ wr).drew⟩ (fun hHeld => ?_)
           refine wpAnyH_take (i := 0) (v := .slice (some ⟨w.heap.size + 1, 0, none⟩) bks.length bks.length) rfl (by kernel_rfl) (by kernel_rfl) (by kernel_rfl) (fun _ _ _ h => h) (Or.inl ⟨by rfl, fun w' _ => by go_simp⟩) hHeld ?_
           try simp only [Act.put, zz]
           refine wpAnyH_take (i := 1) (v := .int .i64 (tk : Nat)) rfl (by kernel_rfl) (by kernel_rfl) (by kernel_rfl) (fun _ _ _ h => h) (Or.inl ⟨by rfl, fun w' _ => by go_simp⟩) hHeld ?_
           try simp only [Act.put, zz]
           refine wpAnyH_take (i := 2) (v := .pointer (some ⟨w.heap.size + 1, tk * 60, none⟩)) rfl (by kernel_rfl) (by kernel_rfl) (by kernel_rfl) (fun _ _ _ h => h) (Or.inl ⟨by rfl, fun w' _ => by go_simp⟩) hHeld ?_
           try simp only [Act.put, zz]
           refine wpAnyH_take (i := 3) (v := .agg (setL Rt).toArray) rfl (by kernel_rfl) (by kernel_rfl) (by kernel_rfl) (fun _ _ _ h => h) (yieldsIf_load_mid (by rfl) _ _ rfl (w.heap.size + 1) (tk * 60) rfl (setL Rt) _ (fun w' h => h.2.1) hu rfl hi60) hHeld ?_
           try simp only [Act.put, zz]
           refine wpAnyH_take (i := 4) (v := .agg (setL E).toArray) rfl (by kernel_rfl) (by kernel_rfl) (by kernel_rfl) (fun _ _ _ h => h) (yieldsIf_load_mid (by rfl) _ _ rfl b8 0 rfl (setL E) _ (fun w' h => h.2.2) hu rfl hi60e) hHeld ?_
           try simp only [Act.put, zz]
           refine wpAnyH_ready (rs := [5, 6]) (by kernel_rfl) (by simp) ?_
           refine AllReadyH.cons rfl (fun K hK => ?_) (AllReadyH.cons rfl (fun K hK => ?_) AllReadyH.nil)
           case refine_1 =>
            rw [if_pos (by rfl)]
            go_wp2_with fail
            refine (HM2.out _).mono ?_
            rintro e w5 ⟨rfl, hb5⟩
            have hb5' : Below wr.heap.size wr w5 := undrewB hb5
            refine hK.out _ _ ⟨hb5', HRG5.out _ hb5'⟩ (fun hHeld => ?_)
            clear hK K
            try simp only [Act.put, zz]
            refine wpAnyH_ready (rs := [6]) (by kernel_rfl) (by simp) ?_
            refine AllReadyH.cons rfl (fun K hK => ?_) AllReadyH.nil
            go_simp
            refine hK.out _ _ ⟨below_al hb5' _, HRG5.out _ (below_al hb5' _)⟩ (fun hHeld => ?_)
            clear hK K
            try simp only [Act.put, zz]
            refine wpAnyH_ready (rs := [7]) (by kernel_rfl) (by simp) ?_
            refine AllReadyH.cons rfl (fun K hK => ?_) AllReadyH.nil
            rw [if_pos (by rfl)]
            refine wp_store_mid 281 _ _ rfl w5.heap.size 0 BA rfl rfl (by rw [hl60']; exact hth w5) hi60' (by rw [<- hBA]; exact setOne B) ?_
            refine hK.out _ _ ⟨(below_cells (below_al hb5' _) hb5'.size _ _), HRG5.out _ (below_cells (below_al hb5' _) hb5'.size _ _)⟩ (fun hHeld => ?_)
            clear hK K
            try simp only [Act.put, List.getElem_toArray, List.getElem_cons_zero, List.getElem_cons_succ]
            refine wpAnyH_done (by kernel_rfl) ?_ _
            refine (fun hW => ?_) (HW1.out w5 hb5')
            obtain ⟨hX1, hX2⟩ := hW
            generalize (w5.alloc (.cells #[.bool false, .bool false, .bool false, .bool false, .bool false, .bool false, .bool false, .bool false, .bool false, .bool false, .bool false, .bool false, .bool false, .bool false, .bool false, .bool false, .bool false, .bool false, .bool false, .bool false, .bool false, .bool false, .bool false, .bool false, .bool false, .bool false, .bool false, .bool false, .bool false, .bool false, .bool false, .bool false, .bool false, .bool false, .bool false, .bool false, .bool false, .bool false, .bool false, .bool false, .bool false, .bool false, .bool false, .bool false, .bool false, .bool false, .bool false, .bool false, .bool false, .bool false, .bool false, .bool false, .bool false, .bool false, .bool false, .bool false, .bool false, .bool false, .bool false, .bool false] 281)).setCells w5.heap.size 0 BA.toList = X at hX1 hX2 ⊢
            have hge2 : wr.heap.size <= w5.heap.size := hb5'.size
            generalize w5.heap.size = b11 at hX1 hge2 ⊢
            exact key2 X b11 ⟨hX1, hX2, hge2⟩
           case refine_2 =>
            go_simp
            refine hK.out _ _ ⟨below_al (Below.refl _ wr).drew _, HRG5.out _ (below_al (Below.refl _ wr).drew _)⟩ (fun hHeld => ?_)
            clear hK K
            try simp only [Act.put, zz]
            refine wpAnyH_ready (rs := [5]) (by kernel_rfl) (by simp) ?_
            refine AllReadyH.cons rfl (fun K hK => ?_) AllReadyH.nil
            rw [if_pos (by rfl)]
            go_wp2_with fail
            refine (HM2.out _).mono ?_
            rintro e w5 ⟨rfl, hb5⟩
            have hb5' : Below wr.heap.size wr w5 := unallocB hb5
            refine hK.out _ _ ⟨hb5', HRG5.out _ hb5'⟩ (fun hHeld => ?_)
            clear hK K
            try simp only [Act.put, zz]
            refine wpAnyH_ready (rs := [7]) (by kernel_rfl) (by simp) ?_
            refine AllReadyH.cons rfl (fun K hK => ?_) AllReadyH.nil
            rw [if_pos (by rfl)]
            refine wp_store_mid 281 _ _ rfl wr.heap.size 0 BA rfl rfl (by rw [hl60']; exact (HT2.out w5 hb5).there) hi60' (by rw [<- hBA]; exact setOne B) ?_
            refine hK.out _ _ ⟨(below_cells hb5' (Nat.le_refl _) _ _), HRG5.out _ (below_cells hb5' (Nat.le_refl _) _ _)⟩ (fun hHeld => ?_)
            clear hK K
            try simp only [Act.put, List.getElem_toArray, List.getElem_cons_zero, List.getElem_cons_succ]
            refine wpAnyH_done (by kernel_rfl) ?_ _
            refine (fun hW => ?_) (HW2.out w5 hb5)
            obtain ⟨hX1, hX2⟩ := hW
            generalize w5.setCells wr.heap.size 0 BA.toList = X at hX1 hX2 ⊢
            generalize hb11 : wr.heap.size = b11 at hX1 ⊢
            have hge2 : wr.heap.size <= b11 := Nat.le_of_eq hb11
            exact key2 X b11 ⟨hX1, hX2, hge2⟩
          ·rintro X b11 ⟨hX1, hX2, hge2⟩
           have hbX : Below w.heap.size w X := hbk.trans (hX2.mono hzk)
           have hrX : setsRow X (w.heap.size + 1) st'.1 := (hX2.block _ hgl).trans hrk
           have hEX : setRow X b8 E := (hX2.block _ hb8l).trans hEk
           have hxX := (hX2.block _ (lt_of_block hxk)).trans hxk
           have hownX := own_below hownk hX2
           clear HRG5 hrg1 hrg2 HW1 HW2 HT2 hth hi60e hl60e HM2
           have HRG6 : Hid (∀ w5, Below X.heap.size X w5 -> w5.rangeAt b11 0 (setL B) /\ w5.rangeAt (w.heap.size + 1) (tk * 60) (setL Rt)) := hide fun w5 h5 =>
            ⟨setRow.range (w := w5) ((h5.block _ (lt_of_block hX1)).trans hX1), (HRGt.out w5 ((h5.block _ (lt_of_block hrX)).trans hrX)).1⟩
           have hiB := setSize B hB60
           have hneq : ∀ w', (binOp .neq 281 (.agg (setL B).toArray) (.agg (setL Rt).toArray)).run Tryz.prog w' = .ok (.bool (!(B == Rt))) w' := neq_sets B Rt hB60 hRt60
           have heg : Tryz.prog.eqGuardType Tryz.prog.depth 281 = false := by kernel_rfl
           have hnew : ∀ (ch' : Bool), (st'.1.set tk B, ch') = (st'.1.set tk B, st'.2 || !(B == Rt)) -> Code.stepT E st' tk = (st'.1.set tk B, ch') := fun ch' h => HST.out.trans h.symm
           have HNEW := hide hnew
           have HTHt := hide (HRGt.out X hrX).2
           have HPT := hide (HPUT.out X B hB60 hrX)
           have hrangeB := (HRG6.out X (Below.refl _ _)).1
           have hb11n : b11 ≠ w.heap.size + 1 := by omega
           clear hnew
           cases hch : st'.2 with
           | true =>
            rw [hch] at HNEW
            go_wp2_with fail
            go_quiet (fail)
            generalize hY : X.drewN nq = Y
            have hst2 : Code.stepT E st' tk = (st'.1.set tk B, true) := HNEW.out true rfl
            have hrY : setsRow Y (w.heap.size + 1) st'.1 := by rw [<- hY]; exact hrX
            have hEY : setRow Y b8 E := by rw [<- hY]; exact hEX
            have hBY : setRow Y b11 B := by rw [<- hY]; exact hX1
            have hxY : Y.heap[w.heap.size]? = some (.cells #[.int .i64 (args : Nat), .slice (some ⟨gb, 0, none⟩) bks.length c] 78) := by rw [<- hY]; exact hxX
            have hownY : Y.ownsRow W.heap.size 3 1 (.slice (some ⟨g7, 0, none⟩) tl.length c6) tl.length (nats tl) := by rw [<- hY]; exact hownX
            have hbY : Below w.heap.size w Y := by rw [<- hY]; exact ⟨hbX.os, hbX.tape, hbX.output, hbX.size, hbX.block⟩
            clear hY hrX hEX hxX hownX hbX hX1
            have hthY := (HRGt.out Y hrY).2
            have hoB : (setL B).toArray.all (·.oneCell') = true := setOne B
            have hiB' : (Tryz.prog.info? 281).map (·.size) = some (setL B).toArray.size := setSize' B hB60
            have hlB : (setL B).toArray.size = 60 := by rw [List.size_toArray, setL_length]; exact hB60
            go_wp2_with (first | refine wpList_load_mid rfl 281 _ rfl b11 0 rfl (setL B) _ hBY.range Tryz.underlying281 rfl hiB ?_ | (refine wpList_store_mid rfl 281 _ _ rfl (w.heap.size + 1) (tk * 60) (setL B).toArray rfl rfl ?_ hiB' hoB ?_; (rw [hlB]; exact hthY)))
            have hals2 := HALS.out
            have hsn2 := HSN.out
            rw [hst2] at hals2 hsn2
            refine ⟨⟨k + 1, _, by omega, by go_num, rfl, hals2, HPUT.out Y B hB60 hrY, stay_cells hEY hb8n, own_at hownY (fun b hb => setCells_other _ (by have := (hownY.lt b hb).1; omega) _ _ _), stay_cells hxY (by omega), below_cells hbY (by omega) _ _, hide hsn2⟩, by simp [intOf]; omega⟩
           | false =>
            rw [hch] at HNEW
            go_wp2_with fail
            refine wp_region_held_drew (S := fun w' => Below X.heap.size X w' /\ w'.rangeAt b11 0 (setL B) /\ w'.rangeAt (w.heap.size + 1) (tk * 60) (setL Rt)) (by kernel_rfl) ⟨(Below.refl _ X).drew, HRG6.out _ (Below.refl _ X).drew⟩ (fun hHeld => ?_)
            refine wpAnyH_take (i := 0) (v := .bool false) rfl (by kernel_rfl) (by kernel_rfl) (by kernel_rfl) (fun _ _ _ h => h) (Or.inl ⟨by rfl, fun w' _ => by go_simp⟩) hHeld ?_
            try simp only [Act.put, zz]
            refine wpAnyH_take (i := 1) (v := .bool false) rfl (by kernel_rfl) (by kernel_rfl) (by kernel_rfl) (fun _ _ _ h => h) (Or.inl ⟨by rfl, fun w' _ => by go_simp⟩) hHeld ?_
            try simp only [Act.put, zz]
            refine wpAnyH_take (i := 2) (v := .agg (setL B).toArray) rfl (by kernel_rfl) (by kernel_rfl) (by kernel_rfl) (fun _ _ _ h => h) (yieldsIf_load_mid (by rfl) _ _ rfl b11 0 rfl (setL B) _ (fun w' h => h.2.1) hu rfl hiB) hHeld ?_
            try simp only [Act.put, zz]
            refine wpAnyH_take (i := 3) (v := .slice (some ⟨w.heap.size + 1, 0, none⟩) bks.length bks.length) rfl (by kernel_rfl) (by kernel_rfl) (by kernel_rfl) (fun _ _ _ h => h) (Or.inl ⟨by rfl, fun w' _ => by go_simp⟩) hHeld ?_
            try simp only [Act.put, zz]
            refine wpAnyH_take (i := 4) (v := .int .i64 (tk : Nat)) rfl (by kernel_rfl) (by kernel_rfl) (by kernel_rfl) (fun _ _ _ h => h) (Or.inl ⟨by rfl, fun w' _ => by go_simp⟩) hHeld ?_
            try simp only [Act.put, zz]
            refine wpAnyH_take (i := 5) (v := .pointer (some ⟨w.heap.size + 1, tk * 60, none⟩)) rfl (by kernel_rfl) (by kernel_rfl) (by kernel_rfl) (fun _ _ _ h => h) (Or.inl ⟨by rfl, fun w' _ => by go_simp⟩) hHeld ?_
            try simp only [Act.put, zz]
            refine wpAnyH_take (i := 6) (v := .agg (setL Rt).toArray) rfl (by kernel_rfl) (by kernel_rfl) (by kernel_rfl) (fun _ _ _ h => h) (yieldsIf_load_mid (by rfl) _ _ rfl (w.heap.size + 1) (tk * 60) rfl (setL Rt) _ (fun w' h => h.2.2) hu rfl hi60) hHeld ?_
            try simp only [Act.put, zz]
            refine wpAnyH_take (i := 7) (v := .bool (!(B == Rt))) rfl (by kernel_rfl) (by kernel_rfl) (by kernel_rfl) (fun _ _ _ h => h) (Or.inl ⟨by rfl, fun w' _ => by go_simp⟩) hHeld ?_
            try simp only [Act.put, zz]
            refine wpAnyH_take (i := 8) (v := .bool (!(B == Rt))) rfl (by kernel_rfl) (by kernel_rfl) (by kernel_rfl) (fun _ _ _ h => h) (Or.inl ⟨by rfl, fun w' _ => by go_simp⟩) hHeld ?_
            try simp only [Act.put, zz]
            refine wpAnyH_take (i := 9) (v := .bool (!(B == Rt))) rfl (by kernel_rfl) (by kernel_rfl) (by kernel_rfl) (fun _ _ _ h => h) (Or.inl ⟨by rfl, fun w' _ => by go_simp⟩) hHeld ?_
            try simp only [Act.put, zz]
            refine wpAnyH_done (by kernel_rfl) ?_ _
            generalize hY : X.drew = Y
            have hst2 : Code.stepT E st' tk = (st'.1.set tk B, !(B == Rt)) := HNEW.out (!(B == Rt)) rfl
            have hrY : setsRow Y (w.heap.size + 1) st'.1 := by rw [<- hY]; exact hrX
            have hEY : setRow Y b8 E := by rw [<- hY]; exact hEX
            have hBY : setRow Y b11 B := by rw [<- hY]; exact hX1
            have hxY : Y.heap[w.heap.size]? = some (.cells #[.int .i64 (args : Nat), .slice (some ⟨gb, 0, none⟩) bks.length c] 78) := by rw [<- hY]; exact hxX
            have hownY : Y.ownsRow W.heap.size 3 1 (.slice (some ⟨g7, 0, none⟩) tl.length c6) tl.length (nats tl) := by rw [<- hY]; exact hownX
            have hbY : Below w.heap.size w Y := by rw [<- hY]; exact ⟨hbX.os, hbX.tape, hbX.output, hbX.size, hbX.block⟩
            clear hY hrX hEX hxX hownX hbX hX1
            have hthY := (HRGt.out Y hrY).2
            have hoB : (setL B).toArray.all (·.oneCell') = true := setOne B
            have hiB' : (Tryz.prog.info? 281).map (·.size) = some (setL B).toArray.size := setSize' B hB60
            have hlB : (setL B).toArray.size = 60 := by rw [List.size_toArray, setL_length]; exact hB60
            go_wp2_with (first | refine wpList_load_mid rfl 281 _ rfl b11 0 rfl (setL B) _ hBY.range Tryz.underlying281 rfl hiB ?_ | (refine wpList_store_mid rfl 281 _ _ rfl (w.heap.size + 1) (tk * 60) (setL B).toArray rfl rfl ?_ hiB' hoB ?_; (rw [hlB]; exact hthY)))
            have hals2 := HALS.out
            have hsn2 := HSN.out
            rw [hst2] at hals2 hsn2
            refine ⟨⟨k + 1, _, by omega, by go_num, rfl, hals2, HPUT.out Y B hB60 hrY, stay_cells hEY hb8n, own_at hownY (fun b hb => setCells_other _ (by have := (hownY.lt b hb).1; omega) _ _ _), stay_cells hxY (by omega), below_cells hbY (by omega) _ _, hide hsn2⟩, by simp [intOf]; omega⟩
         ·have HS : Hid (Code.passGo (bks.drop (j + 1)) (j + 1) st' = Code.pass bks A) := by
           have h := hspk.out
           rw [show tl.drop k = [] from List.drop_of_length_le (by omega)] at h
           exact h
          clear hspk
          go_wp2
          exact ⟨⟨j + 1, st', by omega, by go_num, rfl, hal', hrk, hxk, hbk, HS⟩, by simp [intOf]; omega⟩
      ·have HS : Hid (st = Code.pass bks A) := by
        have h := hsp.out
        rw [List.drop_of_length_le (by omega)] at h
        exact h
       clear hsp
       go_wp2
       refine ⟨⟨st.1, st.2, rfl, hal.len, hal.all, hrs, hxs, hbs, hide ⟨fun hb B hB => HIT.out B ?_, fun hb => HIT.out _ ?_⟩⟩, ?_⟩
       ·rw [HS.out] at hb hB
        exact Code.Iter.more hb hB
       ·rw [HS.out] at hb ⊢
        exact Code.Iter.done hb
       ·have hm1 := wtrues_row hrs
        have hle := hal.le
        have hltt := hal.lt
        rw [hm0.out, hm1]
        cases hc : st.2
        ·simp only [chN]; omega
        ·have := hltt hc
         simp only [chN]; omega
namespace Code
def PhisMade (vals : List Val) (place : Nat) (R : List Bool) : Prop := ∀ v ∈ vals, ∀ of, v.thing = .phi of -> ∃ h : place < of.length, of[place] < 60 /\ R.getD of[place] false = true
end Code
theorem phisMade_ok (args : Nat) (bks : List Code.Blk) (p : Option Addr) (c : Nat) (base : Nat) (w : World) (hf : RepBlks w base (.slice p bks.length c) bks) (j : Nat) (hj : j < bks.length) (hlen : bks[j].values.length <= 100000) (place : Nat) (R : List Bool) (hR : R.length = 60) (hp : Code.PhisMade bks[j].values place R) :
  Calls Tryz.prog 168 #[.agg #[.int .i64 (args : Nat), .slice p bks.length c], .int .i64 (j : Nat), .int .i64 (place : Nat), .agg (setA R)] w fun e w' => e = .returned (.tuple #[]) /\ Below w.heap.size w w' := by
 obtain ⟨p', c', hpe, hblk⟩ := hf.open
 simp only [Value.slice.injEq] at hpe
 obtain ⟨rfl, _, rfl⟩ := hpe
 obtain ⟨gb, vs, rfl, hg, c0, c1, hvs⟩ := hblk j hj
 obtain ⟨pv, cv, rfl, hval⟩ := hvs.open
 have HP := hide hp
 have HV := hide hval
 generalize bks[j].values = vals at *
 clear hblk hf hp hval hvs c1
 have hjl : (j : Int) < (bks.length : Int) := by omega
 have hglt : gb < w.heap.size := hg
 go_enter Tryz.func168, Tryz.ntmps168
 go_wp2
 generalize hw0 : (w.alloc _).alloc _ = w0
 have hr0 : setRow w0 (w.heap.size + 1) R := by
  have h := heap_alloc_new (w.alloc (.cells #[.int .i64 (args : Nat), .slice (some ⟨gb, 0, none⟩) bks.length c] 78)) (.cells (setA R) 281)
  rw [alloc_size] at h
  rw [<- hw0]; exact h
 have hb0 : Below w.heap.size w w0 := by rw [<- hw0]; exact below_al (below_al (Below.refl _ _) _) _
 clear hw0
 go_loopw [19] (fun i wr => ∃ k : Nat, k <= vals.length /\ i = .int .i64 k /\ setRow wr (w.heap.size + 1) R /\ Below w.heap.size w wr) (fun i _ => vals.length - (intOf i).toNat)
 case atStart => exact ⟨0, by omega, rfl, hr0, hb0⟩
 case round =>
  obtain ⟨k, hk, rfl, hrw, hbw⟩ := hrel
  clear hr0 hb0
  have hz := hbw.size
  by_cases hkt : k < vals.length
  ·obtain ⟨g2, th, rfl, hg2, d0, d1, hth⟩ := HV.out k hkt
   have HPK := hide (HP.out vals[k] (List.getElem_mem hkt))
   have d0' : wr.cell? ⟨g2, k * 2, none⟩ = some (.int .i64 (vals[k].num : Nat)) := by rw [(bcell hbw).1 g2 _ hg2]; exact d0
   have d1' : wr.cell? ⟨g2, k * 2 + 1, none⟩ = some th := by rw [(bcell hbw).1 g2 _ hg2]; exact d1
   have hth' : ThingV w base vals[k].thing th := hth
   generalize vals[k].thing = y at *
   generalize vals[k].num = x at *
   clear d0 d1 hth
   have hl1 := lt_of_block hrw
   cases y with
   | phi of =>
    obtain ⟨r, rfl, hro⟩ := hth'
    obtain ⟨pr, cr, rfl, hvv⟩ := nats_open hro
    obtain ⟨hpo, hp60, hpt⟩ := HPK.out of rfl
    obtain ⟨g3, rfl, e0⟩ := hvv place hpo
    have hg3 : g3 < w.heap.size := by
     cases hh : w.heap[g3]? with
     | none => simp [World.cell?, hh] at e0
     | some o => exact lt_of_block hh
    have e0' : wr.cell? ⟨g3, place, none⟩ = some (.int .i64 (of[place] : Nat)) := by rw [(bcell hbw).1 g3 _ hg3]; exact e0
    have hcx : wr.cell? ⟨w.heap.size + 1, of[place], none⟩ = some (.bool true) := by
     rw [hrw.cell of[place] (by omega)]
     rw [List.getD_eq_getElem?_getD, List.getElem?_eq_getElem (by omega)] at hpt
     simp only [Option.getD_some] at hpt
     rw [hpt]
    have hg3' : g3 < wr.heap.size := by omega
    have hz' : w.heap.size < wr.heap.size := by omega
    have hpl' : (place : Int) < (of.length : Int) := by omega
    have hx60 : ((of[place] : Nat) : Int) < 60 := by omega
    have hta := isPhi_phi
    clear hvv hro e0 hpt
    generalize of[place] = q at *
    go_wp2
    exact ⟨⟨k + 1, by omega, by go_num, stay_alloc (stay_alloc hrw), below_al (below_al hbw _) _⟩, by simp [intOf]; omega⟩
   | arg m =>
    have hth2 : th = _ := hth'
    subst hth2
    have hta := isPhi_arg
    go_wp2
    exact ⟨⟨k + 1, by omega, by go_num, stay_alloc (stay_alloc hrw), below_al (below_al hbw _) _⟩, by simp [intOf]; omega⟩
   | const m =>
    have hth2 : th = _ := hth'
    subst hth2
    have hta := isPhi_const
    go_wp2
    exact ⟨⟨k + 1, by omega, by go_num, stay_alloc (stay_alloc hrw), below_al (below_al hbw _) _⟩, by simp [intOf]; omega⟩
   | apply m of =>
    obtain ⟨r, rfl, hro⟩ := hth'
    obtain ⟨pr, cr, rfl⟩ := own_slice hro
    have hta := isPhi_apply
    go_wp2
    exact ⟨⟨k + 1, by omega, by go_num, stay_alloc (stay_alloc hrw), below_al (below_al hbw _) _⟩, by simp [intOf]; omega⟩
  ·go_wp2
   go_end0
   exact ⟨rfl, hbw⟩
end Go.Proofs.YtedkjanogjglkaaGreatDoor
