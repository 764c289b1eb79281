/-
  Parts of the proof: RHeavy2, RRule, RCut, RRead, RRead2, RFace.
-/
import Derived.Test.YtedkjanogjglkaaGreatDoorP11
import Derived.Test.YtedkjanogjglkaaGreatDoorP07
import Derived.Test.YtedkjanogjglkaaGreatDoorP09
import Derived.Lib.Bytealg
import Derived.Recover
import Derived.BigQuiet
set_option maxRecDepth 100000
set_option maxHeartbeats 8000000
namespace Go.Proofs.YtedkjanogjglkaaGreatDoor
open Go.RowKit
open Go.Proofs.YtedkjanogjglkaaGreatDoor.Code (RTree Nm RSt Prs)
theorem isHeavy_div (sv : Value) (T : TypeId) (x : Value) (w : World) :
  Calls Tryz.prog 103 #[.agg #[.int .i64 3, sv, .iface T x]] w fun e w' => e = .returned (.bool true) /\ Below w.heap.size w w' := by
 go_enter Tryz.func103, Tryz.ntmps103
 go_wp2_with fail
 generalize hw0 : w.alloc _ = w0
 have hb0 : Below w.heap.size w w0 := by rw [<- hw0]; exact below_al (Below.refl _ _) _
 have hn0 : w0.heap[w.heap.size]? = some (.cells #[.int .i64 3, sv, .iface T x] 123) := by rw [<- hw0]; exact heap_alloc_new w _
 clear hw0
 generalize hbe : w.heap.size = b at *
 have hS : w0.drew.heap[b]? = some (.cells #[.int .i64 3, sv, .iface T x] 123) := hn0
 refine wp_region_held_drew (S := fun w' => w'.heap[b]? = some (.cells #[.int .i64 3, sv, .iface T x] 123)) (by kernel_rfl) hn0 (fun hHeld => ?_)
 refine wpAnyH_take (i := 0) (v := .pointer (some ⟨b, 0, none⟩)) rfl (by kernel_rfl) (by kernel_rfl) (by kernel_rfl) (fun _ _ _ h => h) (Or.inl ⟨by rfl, fun w' h => by  go_simp⟩) hS ?_
 try simp only [Act.put, zz]
 refine wpAnyH_take (i := 1) (v := .pointer (some ⟨b, 0, none⟩)) rfl (by kernel_rfl) (by kernel_rfl) (by kernel_rfl) (fun _ _ _ h => h) (Or.inl ⟨by rfl, fun w' h => by  go_simp⟩) hS ?_
 try simp only [Act.put, zz]
 refine wpAnyH_take (i := 2) (v := .int .i64 3) rfl (by kernel_rfl) (by kernel_rfl) (by kernel_rfl) (fun _ _ _ h => h) (Or.inl ⟨by rfl, fun w' h => by have r0 := blk_cell h 0 _ rfl; go_simp⟩) hS ?_
 try simp only [Act.put, zz]
 refine wpAnyH_take (i := 3) (v := .bool true) rfl (by kernel_rfl) (by kernel_rfl) (by kernel_rfl) (fun _ _ _ h => h) (Or.inl ⟨by rfl, fun w' h => by  go_simp⟩) hS ?_
 try simp only [Act.put, zz]
 refine wpAnyH_take (i := 4) (v := .bool true) rfl (by kernel_rfl) (by kernel_rfl) (by kernel_rfl) (fun _ _ _ h => h) (Or.inl ⟨by rfl, fun w' h => by  go_simp⟩) hS ?_
 try simp only [Act.put, zz]
 refine wpAnyH_take (i := 5) (v := undef) rfl (by kernel_rfl) (by kernel_rfl) (by kernel_rfl) (fun _ _ _ h => h) (Or.inr ⟨by rfl, rfl⟩) hS ?_
 try simp only [Act.put, zz]
 refine wpAnyH_take (i := 6) (v := undef) rfl (by kernel_rfl) (by kernel_rfl) (by kernel_rfl) (fun _ _ _ h => h) (Or.inr ⟨by rfl, rfl⟩) hS ?_
 try simp only [Act.put, zz]
 refine wpAnyH_take (i := 7) (v := undef) rfl (by kernel_rfl) (by kernel_rfl) (by kernel_rfl) (fun _ _ _ h => h) (Or.inr ⟨by rfl, rfl⟩) hS ?_
 try simp only [Act.put, zz]
 refine wpAnyH_take (i := 8) (v := undef) rfl (by kernel_rfl) (by kernel_rfl) (by kernel_rfl) (fun _ _ _ h => h) (Or.inr ⟨by rfl, rfl⟩) hS ?_
 try simp only [Act.put, zz]
 refine wpAnyH_take (i := 9) (v := undef) rfl (by kernel_rfl) (by kernel_rfl) (by kernel_rfl) (fun _ _ _ h => h) (Or.inr ⟨by rfl, rfl⟩) hS ?_
 try simp only [Act.put, zz]
 refine wpAnyH_take (i := 10) (v := undef) rfl (by kernel_rfl) (by kernel_rfl) (by kernel_rfl) (fun _ _ _ h => h) (Or.inr ⟨by rfl, rfl⟩) hS ?_
 try simp only [Act.put, zz]
 refine wpAnyH_take (i := 11) (v := undef) rfl (by kernel_rfl) (by kernel_rfl) (by kernel_rfl) (fun _ _ _ h => h) (Or.inr ⟨by rfl, rfl⟩) hS ?_
 try simp only [Act.put, zz]
 refine wpAnyH_take (i := 12) (v := undef) rfl (by kernel_rfl) (by kernel_rfl) (by kernel_rfl) (fun _ _ _ h => h) (Or.inr ⟨by rfl, rfl⟩) hS ?_
 try simp only [Act.put, zz]
 refine wpAnyH_take (i := 13) (v := .bool true) rfl (by kernel_rfl) (by kernel_rfl) (by kernel_rfl) (fun _ _ _ h => h) (Or.inl ⟨by rfl, fun w' h => by  go_simp⟩) hS ?_
 try simp only [Act.put, zz]
 refine wpAnyH_ready (rs := [14]) (by kernel_rfl) (by simp) ?_
 refine AllReadyH.cons rfl (fun K hK => ?_) AllReadyH.nil
 rw [if_pos (by rfl)]
 go_wp2_with fail
 refine hK.out _ _ hS (fun hHeld => ?_)
 clear hK K
 try simp only [Act.put, zz]
 refine wpAnyH_done (by kernel_rfl) ?_ _
 go_wp2
 go_ret
 exact ⟨rfl, Below.drew (by rw [hbe]; exact hb0)⟩
theorem isHeavy_any (k : Nat) (hk13 : k < 13) (hk3 : k ≠ 3) (sv : Value) (t : RTree) (rv : Value) (base : Nat) (L : Int -> Nm -> Prop) (w : World) (hrep : RepT w base true L rv t) (ht : Tab w) (hh : t.heavy <= 100000) :
  Calls Tryz.prog 103 #[.agg #[.int .i64 (k : Nat), sv, rv]] w fun e w' => e = .returned (.bool (decide (Code.opW k <= t.heavy))) /\ Below w.heap.size w w' := by
 obtain ⟨T, x, rfl⟩ := hrep.shape
 have HREP := hide hrep
 have HT := hide ht
 have hq : ((k : Int) == 3) = false := beq_eq_false_iff_ne.2 (by omega)
 have hW := Code.opW_range k
 have hp := Code.heavy_pos t
 clear hrep ht hk3
 go_enter Tryz.func103, Tryz.ntmps103
 go_wp2_with fail
 generalize hw0 : w.alloc _ = w0
 have hb0 : Below w.heap.size w w0 := by rw [<- hw0]; exact below_al (Below.refl _ _) _
 have hn0 : w0.heap[w.heap.size]? = some (.cells #[.int .i64 (k : Nat), sv, .iface T x] 123) := by rw [<- hw0]; exact heap_alloc_new w _
 clear hw0
 have hS : w0.drew.heap[w.heap.size]? = some (.cells #[.int .i64 (k : Nat), sv, .iface T x] 123) := hn0
 have hbd : Below w.heap.size w w0.drew := Below.drew hb0
 refine wp_region_held_drew (S := fun w' => w'.heap[w.heap.size]? = some (.cells #[.int .i64 (k : Nat), sv, .iface T x] 123)) (by kernel_rfl) hn0 (fun hHeld => ?_)
 generalize w0.drew = wd at hS hbd ⊢
 clear hn0 hb0 hHeld
 have HW := hide (weighs_any t (.iface T x) base L)
 refine wpAnyH_take (i := 0) (v := .pointer (some ⟨w.heap.size, 0, none⟩)) rfl (by kernel_rfl) (by kernel_rfl) (by kernel_rfl) (fun _ _ _ h => h) (Or.inl ⟨by rfl, fun w' h => by  go_simp⟩) hS ?_
 try simp only [Act.put, zz]
 refine wpAnyH_take (i := 1) (v := .pointer (some ⟨w.heap.size, 0, none⟩)) rfl (by kernel_rfl) (by kernel_rfl) (by kernel_rfl) (fun _ _ _ h => h) (Or.inl ⟨by rfl, fun w' h => by  go_simp⟩) hS ?_
 try simp only [Act.put, zz]
 refine wpAnyH_take (i := 2) (v := .int .i64 (k : Nat)) rfl (by kernel_rfl) (by kernel_rfl) (by kernel_rfl) (fun _ _ _ h => h) (Or.inl ⟨by rfl, fun w' h => by have r0 := blk_cell h 0 _ rfl; go_simp⟩) hS ?_
 try simp only [Act.put, zz]
 refine wpAnyH_take (i := 3) (v := .bool false) rfl (by kernel_rfl) (by kernel_rfl) (by kernel_rfl) (fun _ _ _ h => h) (Or.inl ⟨by rfl, fun w' h => by  go_simp⟩) hS ?_
 try simp only [Act.put, zz]
 refine wpAnyH_take (i := 4) (v := .bool false) rfl (by kernel_rfl) (by kernel_rfl) (by kernel_rfl) (fun _ _ _ h => h) (Or.inl ⟨by rfl, fun w' h => by  go_simp⟩) hS ?_
 try simp only [Act.put, zz]
 refine wpAnyH_take (i := 5) (v := .pointer (some ⟨w.heap.size, 2, none⟩)) rfl (by kernel_rfl) (by kernel_rfl) (by kernel_rfl) (fun _ _ _ h => h) (Or.inl ⟨by rfl, fun w' h => by  go_simp⟩) hS ?_
 try simp only [Act.put, zz]
 refine wpAnyH_take (i := 6) (v := .iface T x) rfl (by kernel_rfl) (by kernel_rfl) (by kernel_rfl) (fun _ _ _ h => h) (Or.inl ⟨by rfl, fun w' h => by have r0 := blk_cell h 2 _ rfl; go_simp⟩) hS ?_
 try simp only [Act.put, zz]
 refine wpAnyH_take (i := 8) (v := .pointer (some ⟨w.heap.size, 0, none⟩)) rfl (by kernel_rfl) (by kernel_rfl) (by kernel_rfl) (fun _ _ _ h => h) (Or.inl ⟨by rfl, fun w' h => by  go_simp⟩) hS ?_
 try simp only [Act.put, zz]
 refine wpAnyH_take (i := 9) (v := .pointer (some ⟨w.heap.size, 0, none⟩)) rfl (by kernel_rfl) (by kernel_rfl) (by kernel_rfl) (fun _ _ _ h => h) (Or.inl ⟨by rfl, fun w' h => by  go_simp⟩) hS ?_
 try simp only [Act.put, zz]
 refine wpAnyH_take (i := 10) (v := .int .i64 (k : Nat)) rfl (by kernel_rfl) (by kernel_rfl) (by kernel_rfl) (fun _ _ _ h => h) (Or.inl ⟨by rfl, fun w' h => by have r0 := blk_cell h 0 _ rfl; go_simp⟩) hS ?_
 try simp only [Act.put, zz]
 refine wpAnyH_ready (rs := [7]) (by kernel_rfl) (by simp) ?_
 refine AllReadyH.cons rfl (fun K hK => ?_) AllReadyH.nil
 rw [if_pos (by rfl)]
 go_wp2_with fail
 refine (HW.out wd (HREP.out.below hbd) (HT.out.below hbd) hh).mono ?_
 rintro e w1 ⟨rfl, hb1⟩
 have hbd1 := hbd.trans (hb1.mono hbd.size)
 have hS1 : w1.heap[w.heap.size]? = some (.cells #[.int .i64 (k : Nat), sv, .iface T x] 123) := (hb1.block _ (lt_of_block hS)).trans hS
 refine hK.out _ _ hS1 (fun hHeld => ?_)
 clear hK K
 try simp only [Act.put, zz]
 refine wpAnyH_ready (rs := [11]) (by kernel_rfl) (by simp) ?_
 refine AllReadyH.cons rfl (fun K hK => ?_) AllReadyH.nil
 rw [if_pos (by rfl)]
 go_wp2_with fail
 refine (opW_any k w1 hk13 (HT.out.below hbd1)).mono ?_
 rintro e w1 ⟨rfl, rfl⟩
 refine hK.out _ _ hS1 (fun hHeld => ?_)
 clear hK K
 try simp only [Act.put, zz]
 refine wpAnyH_take (i := 12) (v := .bool (decide (Code.opW k <= t.heavy))) rfl (by kernel_rfl) (by kernel_rfl) (by kernel_rfl) (fun _ _ _ h => h) (Or.inl ⟨by rfl, fun w' h => by  go_simp⟩) hS1 ?_
 try simp only [Act.put, zz]
 refine wpAnyH_take (i := 13) (v := .bool (decide (Code.opW k <= t.heavy))) rfl (by kernel_rfl) (by kernel_rfl) (by kernel_rfl) (fun _ _ _ h => h) (Or.inl ⟨by rfl, fun w' h => by  go_simp⟩) hS1 ?_
 try simp only [Act.put, zz]
 refine wpAnyH_ready (rs := [14]) (by kernel_rfl) (by simp) ?_
 refine AllReadyH.cons rfl (fun K hK => ?_) AllReadyH.nil
 rw [if_pos (by rfl)]
 go_wp2_with fail
 refine hK.out _ _ hS1 (fun hHeld => ?_)
 clear hK K
 try simp only [Act.put, zz]
 refine wpAnyH_done (by kernel_rfl) ?_ _
 go_wp2
 go_ret
 exact ⟨rfl, hbd1⟩
open Go.Proofs.YtedkjanogjglkaaGreatDoor.Code (RTree Nm RSt Prs CRule)
def RepR (w : World) (base : Nat) (R : CRule) (k : Nat) (sv rv : Value) : Prop :=
 RepT w base false (LP ⟨R.names, false⟩) (.iface 119 (.agg #[.int .i64 (k : Nat), sv])) R.node /\ RepT w base true (LR ⟨R.names, false⟩) rv R.result /\ R.result.heavy <= 100000
def RulePost (s : List UInt8) (w : World) (rb B : Nat) (l : Int) (e : Ending) (w' : World) : Prop :=
 (∃ n r ns k sv rv, Code.lineS s = .ok (n, r, ns) /\ e = .returned (.agg #[.int .i64 (k : Nat), sv, rv]) /\ RepR w' w.heap.size ⟨n, r, ns⟩ k sv rv /\ Kin w w' rb B) \/ (∃ why, Code.lineS s = .error why /\ FailsK w rb B l why e w')
theorem lineS_none {s : List UInt8} (h : Code.ruleS s = none) : Code.lineS s = .error 6 := by simp [Code.lineS, h]
theorem RepT.op_eq {w : World} {base : Nat} {L : Int -> Nm -> Prop} {a b : Value} {t : RTree} (h : RepT w base false L (.iface 119 (.agg #[a, b])) t) : ∃ k kids, t = .op k kids /\ a = .int .i64 (k : Nat) /\ k < 13 /\ ∃ p n c, b = .slice p n c := by
 cases t with
 | name x => obtain ⟨i, h, _⟩ := h; simp only [Value.iface.injEq] at h; exact absurd h.1 (by decide)
 | hash x => obtain ⟨i, h, _⟩ := h; simp only [Value.iface.injEq] at h; exact absurd h.1 (by decide)
 | num c => obtain ⟨h, _⟩ := h; simp only [Value.iface.injEq] at h; exact absurd h.1 (by decide)
 | op k kids =>
  obtain ⟨sv, vs, h, hk, _, ho, _⟩ := h
  simp only [Bool.false_eq_true, if_false, Value.iface.injEq, Value.agg.injEq, true_and] at h
  have h1 := congrArg (fun x : Array Value => x[0]?) h
  have h2 := congrArg (fun x : Array Value => x[1]?) h
  simp at h1 h2
  obtain ⟨p, c, hs⟩ := own_slice ho
  exact ⟨k, kids, rfl, h1, hk, p, vs.length, c, by rw [h2]; exact hs⟩
 | fold k kids => obtain ⟨sv, vs, h, _⟩ := h; simp only [Value.iface.injEq] at h; exact absurd h.1 (by decide)
theorem str_nil' (a : List UInt8) : ((bs a).toList == []) = decide (a = []) := str_nil a
theorem KeepsT.trans {a b c : World} {base : Nat} (h : KeepsT a b base) (k : KeepsT b c base) : KeepsT a c base := fun q C T z h1 h2 h3 => k q C T z (h q C T z h1 h2 h3) h2 h3
theorem isDiv_op (k : Nat) (l : List RTree) : (RTree.op k l).isDiv = decide (k = 3) := by
 unfold RTree.isDiv
 split
 ·rename_i h; cases h
 ·rename_i h; injection h with h1 h2; subst h1; rfl
 ·rename_i h h'
  have : k ≠ 3 := fun e => h' l (by rw [e])
  simp [this]
theorem Rdr.c4 {w : World} {rb B : Nat} {s : List UInt8} {l : Int} {st : RSt} (h : Rdr w rb B s l st) : w.cell? ⟨rb, 4, none⟩ = some (.bool st.unbound) := by
 obtain ⟨nv, h1, _⟩ := h
 exact h1.c4
theorem giveUp_rdr (rb B : Nat) (s : List UInt8) (l a : Int) (st : RSt) (w : World) (hr : Rdr w rb B s l st) :
  Calls Tryz.prog 99 #[.pointer (some ⟨rb, 0, none⟩), .int .i64 a] w fun e w' => FailsK w rb B l a e w' := by
 obtain ⟨nv, h1, h2⟩ := hr
 refine (giveUp_at rb _ s l 6 a _ w h1).mono ?_
 intro e w' h
 exact h.kin
theorem rule_any (rb B : Nat) (s : List UInt8) (l : Int) (w : World) (hr : Rdr w rb B s l ⟨[], false⟩) (hs : s.length <= 3000) (ht : Tab w) (hrb : 0 < rb) (hB : 0 < B) (hBw : B <= w.heap.size) :
  Calls Tryz.prog 60 #[.pointer (some ⟨rb, 0, none⟩)] w fun e w' => RulePost s w rb B l e w' := by
 have HT := hide ht
 have hrlt : rb < w.heap.size := by
  obtain ⟨X, hX⟩ := hr.rd
  exact lt_of_block hX
 have HLS : Hid (Code.ruleS s = (Code.operS (Code.partS 3) .op ⟨[], false⟩ s).bind fun p => (Code.cut [32, 61, 62, 32] p.2.2).bind fun r => (Code.resS 4 p.2.1 r).bind fun q => if q.2.2 = [] then some (p.1, q.1, q.2.1) else none) := rfl
 clear ht
 go_enter Tryz.func60, Tryz.ntmps60
 go_wp2_with fail
 generalize hw0 : w.alloc _ = w0
 have hb0 : Below w.heap.size w w0 := by rw [<- hw0]; exact below_al (Below.refl _ _) _
 have hn0 : w0.heap[w.heap.size]? = some (.cells #[.int .i64 0, .slice none 0 0, .nilIface] 123) := by rw [<- hw0]; exact heap_alloc_new w _
 have hz0 : w0.heap.size = w.heap.size + 1 := by rw [<- hw0]; simp
 clear hw0
 have hk0 : Kin w w0 rb B := Kin.below hb0
 refine (node_any rb B s l ⟨[], false⟩ w0 (hr.below hb0) hs (by simp; omega) (hk0.tab hrb hB HT.out) hrb hB (by omega)).mono ?_
 rintro e w1 (⟨n, st1, r1, v1, hc1, rfl, ⟨va, vb, rfl⟩, hr1, hrep1, hk1⟩ | ⟨hc1, rfl, hk1⟩)
 case inr =>
  go_wp2
  exact ⟨rfl, Or.inr ⟨6, lineS_none (by rw [HLS.out, hc1]; rfl), rfl, hk0.trans hk1⟩⟩
 have HL1 : Hid (Code.ruleS s = (Code.cut [32, 61, 62, 32] r1).bind fun r => (Code.resS 4 st1 r).bind fun q => if q.2.2 = [] then some (n, q.1, q.2.1) else none) := by rw [HLS.out, hc1]; exact rfl
 obtain ⟨_, hn1l, hr1l⟩ := operS_tame (partS_tame 3) .op _ _ _ _ _ hc1
 obtain ⟨k, kids, rfl, rfl, hk13, sp, sn, sc, rfl⟩ := hrep1.op_eq
 have hk01 := hk0.trans hk1
 have hz1 := hk1.size
 have hN1 : w1.heap[w.heap.size]? = some (.cells #[.int .i64 0, .slice none 0 0, .nilIface] 123) := hk1.block _ _ hn0 (by omega) (Or.inr (by intro C z h; simp only [Obj.cells.injEq] at h; exact absurd h.2.1 (by decide)))
 have HREP1 : Hid (RepT w1 (w.heap.size + 1) false (LP st1) (.iface 119 (.agg #[.int .i64 (k : Nat), .slice sp sn sc])) (.op k kids)) := by rw [<- hz0]; exact hrep1
 clear hc1 HLS hrep1 hn0 hb0 hr
 simp only [List.length_nil] at hn1l
 go_wp2_with fail
 generalize hw2 : w1.alloc _ = w2
 have hb2 : Below w1.heap.size w1 w2 := by rw [<- hw2]; exact below_al (Below.refl _ _) _
 have hR2 : w2.heap[w1.heap.size]? = some (.cells #[.int .i64 (k : Nat), .slice sp sn sc, .nilIface] 123) := by rw [<- hw2]; exact heap_alloc_new w1 _
 clear hw2
 have hk12 : Kin w1 w2 rb B := Kin.below hb2
 have hr2 := hr1.below hb2
 refine (take_rdr rb B r1 [32, 61, 62, 32] l st1 w2 hr2 (by omega) (by simp)).mono ?_
 rintro e w3 (⟨r3, hc3, rfl, hr3, hg3⟩ | ⟨hc3, rfl, hk3⟩)
 case inr =>
  go_wp2
  exact ⟨rfl, Or.inr ⟨6, lineS_none (by rw [HL1.out, hc3]; rfl), rfl, (hk01.trans hk12).trans hk3⟩⟩
 have hk3 : Kin w2 w3 rb B := Kin.grown hg3
 have l3 := Code.cut_length hc3
 have HL3 : Hid (Code.ruleS s = (Code.resS 4 st1 r3).bind fun q => if q.2.2 = [] then some (.op k kids, q.1, q.2.1) else none) := by rw [HL1.out, hc3]; exact rfl
 have hk03 := (hk01.trans hk12).trans hk3
 have hz3 := hk03.size
 have hb1ne : w1.heap.size ≠ rb := by omega
 have hR3 : w3.heap[w1.heap.size]? = some (.cells #[.int .i64 (k : Nat), .slice sp sn sc, .nilIface] 123) := kept_block hR2 hg3 hb1ne
 clear hc3 HL1 hg3
 go_wp2_with fail
 refine (result_any rb B r3 l st1 w3 hr3 (by omega) (by omega) (hk03.tab hrb hB HT.out) hrb hB (by omega)).mono ?_
 rintro e w4 (⟨t4, st4, r4, v4, hc4, rfl, hr4, hrep4, hk4⟩ | ⟨hc4, rfl, hk4⟩)
 case inr =>
  go_wp2
  exact ⟨rfl, Or.inr ⟨6, lineS_none (by rw [HL3.out, hc4]; rfl), rfl, hk03.trans hk4⟩⟩
 obtain ⟨T4, x4, rfl⟩ := hrep4.shape
 have HL4 : Hid (Code.ruleS s = if r4 = [] then some (.op k kids, t4, st4) else none) := by rw [HL3.out, hc4]; exact rfl
 have hnm : st4.names = st1.names := resS_still 4 _ _ _ _ _ hc4
 have hdep : t4.depth <= 4 := by
  have h := Code.res_upon 4 st1 r3
  rw [hc4] at h
  cases hT : Code.treeP true 4 r3 with
  | none => rw [hT] at h; cases h
  | some q =>
   rw [hT] at h
   simp only [Option.bind_some, Code.upon] at h
   split at h
   ·cases hsl : Code.slots Code.findS st1 q.1.names with
    | none => rw [hsl] at h; cases h
    | some s' =>
     rw [hsl] at h
     simp only [Option.map_some, Option.some.injEq, Prod.mk.injEq] at h
     rw [h.1]
     exact ((Code.treeP_same true 4 4 (Nat.le_refl _) r3 q.1 q.2).1 hT).2
   ·cases h
 have hhv : t4.heavy <= 100000 := Int.le_trans (heavy_most t4 _ 4 hrep4 hdep) (by decide)
 have hk04 := hk03.trans hk4
 have hz4 := hk4.size
 have hnr : ∀ {b : Nat} {C : Array Value}, w3.heap[b]? = some (.cells C 123) -> b ≠ rb -> w4.heap[b]? = some (.cells C 123) := fun h hne => hk4.block _ _ h hne (Or.inr (by intro C z h; simp only [Obj.cells.injEq] at h; exact absurd h.2.1 (by decide)))
 have hR4 := hnr hR3 hb1ne
 have hz13 : w1.heap.size < w3.heap.size := lt_of_block hR3
 obtain ⟨X1, hX1⟩ := hr1.rd
 obtain ⟨X2, hX2⟩ := hr2.rd
 obtain ⟨X3, hX3⟩ := hr3.rd
 have HREP4 : Hid (RepT w4 (w.heap.size + 1) false (LP st1) (.iface 119 (.agg #[.int .i64 (k : Nat), .slice sp sn sc])) (.op k kids)) :=
  RepT.kept (((hk12.keeps hX1).trans (hk3.keeps hX2)).trans (hk4.keeps hX3)) (Nat.le_refl _) (fun _ _ h => h) _ _ HREP1.out
 have HRES4 : Hid (RepT w4 (w1.heap.size + 1) true (LR st4) (.iface T4 x4) t4) := RepT.kept (keeps_refl _ _) (by omega) (fun _ _ h => h) _ _ hrep4
 have hN2 : w2.heap[w.heap.size]? = some (.cells #[.int .i64 0, .slice none 0 0, .nilIface] 123) := (hb2.block _ (by omega)).trans hN1
 have hN3 : w3.heap[w.heap.size]? = some (.cells #[.int .i64 0, .slice none 0 0, .nilIface] 123) := hk3.block _ _ hN2 (by omega) (Or.inr (by intro C z h; simp only [Obj.cells.injEq] at h; exact absurd h.2.1 (by decide)))
 have hN4 := hnr hN3 (by omega)
 have HHV := hide hhv
 have HNM := hide hnm
 clear hc4 HL3 hrep4 hdep hhv hX1 hX2 hX3 HREP1 hR2 hR3 hN1 hN2 hN3 hr1 hr2 hr3 hnr hb2 hk3 hk4 hk12 hk1 hk01 hk03 hnm
 have g2 := blk_cell hR4 2 _ rfl
 have z2 := blk_froz hR4 2
 have hR5 := set_block (o := 2) (v := .iface T4 x4) hR4
 have hr5 : Rdr (w4.setCell ⟨w1.heap.size, 2, none⟩ (.iface T4 x4)) rb B r4 l st4 := hr4.set hR4 (by decide) (by decide)
 have hk05 : Kin w (w4.setCell ⟨w1.heap.size, 2, none⟩ (.iface T4 x4)) rb B := hk04.set_new (by omega) _ _
 have hN5 : (w4.setCell ⟨w1.heap.size, 2, none⟩ (.iface T4 x4)).heap[w.heap.size]? = some (.cells #[.int .i64 0, .slice none 0 0, .nilIface] 123) := stay_set hN4 (show w.heap.size ≠ w1.heap.size by omega)
 have hks : ∀ base, w1.heap.size < base \/ True -> KeepsT w4 (w4.setCell ⟨w1.heap.size, 2, none⟩ (.iface T4 x4)) base := fun base _ b C T z h1 h2 h3 => by
  refine stay_set h1 ?_
  rintro rfl
  have h1' : w4.heap[w1.heap.size]? = some (.cells C T z) := h1
  rw [hR4] at h1'
  simp only [Option.some.injEq, Obj.cells.injEq] at h1'
  rcases h2 with rfl | rfl
  ·exact absurd h1'.2.1 (by decide)
  ·exact absurd h1'.2.1 (by decide)
 have HREP5 : Hid (RepT (w4.setCell ⟨w1.heap.size, 2, none⟩ (.iface T4 x4)) (w.heap.size + 1) false (LP st1) (.iface 119 (.agg #[.int .i64 (k : Nat), .slice sp sn sc])) (.op k kids)) := RepT.kept (hks _ (Or.inr trivial)) (Nat.le_refl _) (fun _ _ h => h) _ _ HREP4.out
 have HRES5 : Hid (RepT (w4.setCell ⟨w1.heap.size, 2, none⟩ (.iface T4 x4)) (w1.heap.size + 1) true (LR st4) (.iface T4 x4) t4) := RepT.kept (hks _ (Or.inr trivial)) (Nat.le_refl _) (fun _ _ h => h) _ _ HRES4.out
 have c0 := hr4.c0
 have c4 := hr4.c4
 have hnil := str_nil' r4
 have d0 := blk_cell hR4 0 _ rfl
 have d1 := blk_cell hR4 1 _ rfl
 have n0 := blk_cell hN4 0 _ rfl
 have n1 := blk_cell hN4 1 _ rfl
 have n2 := blk_cell hN4 2 _ rfl
 have y0 := blk_froz hN4 0
 have y1 := blk_froz hN4 1
 have y2 := blk_froz hN4 2
 have hne1 : rb ≠ w1.heap.size := fun h => hb1ne h.symm
 have hlt4 : w1.heap.size < w4.heap.size := lt_of_block hR4
 have hltr : rb < w1.heap.size := by omega
 have hlt0 : w.heap.size < w1.heap.size := by omega
 clear hks HREP4 HRES4 hr4 hk04
 by_cases hr0 : r4 = []
 case neg =>
  rw [decide_eq_false hr0] at hnil
  have HE : Hid (Code.lineS s = .error 6) := lineS_none (by rw [HL4.out, if_neg hr0])
  clear hr0
  go_wp2_with fail
  refine (fail_rdr rb B _ l st4 _ hr5).mono ?_
  rintro e w6 ⟨rfl, hk6⟩
  go_wp2
  exact ⟨rfl, Or.inr ⟨6, HE.out, rfl, hk05.trans hk6⟩⟩
 rw [decide_eq_true hr0] at hnil
 have HL5 : Hid (Code.lineS s = if st4.unbound = true then .error 7 else if (RTree.op k kids).isDiv = true \/ Code.opW k <= t4.heavy then .error 8 else .ok (.op k kids, t4, st4.names)) := by
  simp only [Hid, Code.lineS, HL4.out, if_pos hr0]
 clear hr0 HL4
 cases hub : st4.unbound with
 | true =>
  rw [hub] at c4
  have HE : Hid (Code.lineS s = .error 7) := by rw [HL5.out, hub]; exact rfl
  clear hub
  go_wp2_with fail
  refine (giveUp_rdr rb B _ l 7 st4 _ hr5).mono ?_
  rintro e w6 ⟨rfl, hk6⟩
  go_wp2
  exact ⟨rfl, Or.inr ⟨7, HE.out, rfl, hk05.trans hk6⟩⟩
 | false =>
  rw [hub] at c4
  have HL6 : Hid (Code.lineS s = if (RTree.op k kids).isDiv = true \/ Code.opW k <= t4.heavy then .error 8 else .ok (.op k kids, t4, st4.names)) := by rw [HL5.out, hub]; exact rfl
  have HUB := hide hub
  clear hub HL5
  by_cases hh : k = 3 \/ Code.opW k <= t4.heavy
  ·have HE : Hid (Code.lineS s = .error 8) := by
    rw [HL6.out, isDiv_op, if_pos (by simpa using hh)]; exact rfl
   have HHY : Hid (∀ w', Tab w' -> RepT w' (w1.heap.size + 1) true (LR st4) (.iface T4 x4) t4 -> Calls Tryz.prog 103 #[.agg #[.int .i64 (k : Nat), .slice sp sn sc, .iface T4 x4]] w' fun e w'' => e = .returned (.bool true) /\ Below w'.heap.size w' w'') := hide (fun w' ht' hrep' => by
    by_cases h3 : k = 3
    ·subst h3; exact isHeavy_div _ _ _ _
    ·refine (isHeavy_any k hk13 h3 _ t4 _ _ _ w' hrep' ht' HHV.out).mono ?_
     rintro e w'' ⟨rfl, h⟩
     exact ⟨by rw [decide_eq_true (hh.resolve_left h3)], h⟩)
   clear hh
   go_wp2_with fail
   refine (HHY.out _ (hk05.tab hrb hB HT.out) HRES5.out).mono ?_
   rintro e w6 ⟨rfl, hb6⟩
   have hr6 := hr5.below hb6
   go_wp2_with fail
   refine (giveUp_rdr rb B _ l 8 st4 _ hr6).mono ?_
   rintro e w7 ⟨rfl, hk7⟩
   go_wp2
   exact ⟨rfl, Or.inr ⟨8, HE.out, rfl, (hk05.trans (Kin.below hb6)).trans hk7⟩⟩
  ·have HE : Hid (Code.lineS s = .ok (.op k kids, t4, st4.names)) := by
    rw [HL6.out, isDiv_op, if_neg (by simpa using hh)]; exact rfl
   have h3 : k ≠ 3 := fun h => hh (Or.inl h)
   have HHY := hide (isHeavy_any k hk13 h3 (.slice sp sn sc) t4 (.iface T4 x4) (w1.heap.size + 1) (LR st4) _ HRES5.out (hk05.tab hrb hB HT.out) HHV.out)
   rw [decide_eq_false (fun h => hh (Or.inr h))] at HHY
   clear hh h3
   go_wp2_with fail
   refine (HHY.out).mono ?_
   rintro e w6 ⟨rfl, hb6⟩
   have hk06 := hk05.trans (Kin.below hb6)
   have hR6 := (hb6.block _ (lt_of_block hR5)).trans hR5
   have hN6 := (hb6.block _ (lt_of_block hN5)).trans hN5
   have HREP6 : Hid (RepT w6 (w.heap.size + 1) false (LP st1) (.iface 119 (.agg #[.int .i64 (k : Nat), .slice sp sn sc])) (.op k kids)) := HREP5.out.below hb6
   have HRES6 : Hid (RepT w6 (w1.heap.size + 1) true (LR st4) (.iface T4 x4) t4) := HRES5.out.below hb6
   clear hk05 hR5 hN5 HREP5 HRES5 hr5 hR4 hN4 d0 d1 n0 n1 n2 y0 y1 y2 g2 z2 c0 c4 hnil hb6 HHY
   simp only [List.setIfInBounds_toArray, List.set_cons_zero, List.set_cons_succ] at hR6
   have d0 := blk_cell hR6 0 _ rfl
   have d1 := blk_cell hR6 1 _ rfl
   have d2 := blk_cell hR6 2 _ rfl
   have n0 := blk_cell hN6 0 _ rfl
   have n1 := blk_cell hN6 1 _ rfl
   have n2 := blk_cell hN6 2 _ rfl
   have y0 := blk_froz hN6 0
   have y1 := blk_froz hN6 1
   have y2 := blk_froz hN6 2
   go_wp2
   refine bodyPost_ret (v := .agg #[.int .i64 (k : Nat), .slice sp sn sc, .iface T4 x4]) (by simp [results, Tryz.results60, go_sem, n0, n1, n2]) rfl ?_
   have hset : KeepsT w6 (((w6.setCell ⟨w.heap.size, 0, none⟩ (.int .i64 (k : Nat))).setCell ⟨w.heap.size, 1, none⟩ (.slice sp sn sc)).setCell ⟨w.heap.size, 2, none⟩ (.iface T4 x4)) (w.heap.size + 1) := fun b C T z h1 h2 h3 => stay_set (stay_set (stay_set h1 (show b ≠ w.heap.size by omega)) (show b ≠ w.heap.size by omega)) (show b ≠ w.heap.size by omega)
   refine Or.inl ⟨.op k kids, t4, st4.names, k, _, _, HE.out, rfl, ⟨?_, ?_, HHV.out⟩, ((hk06.set_new (Nat.le_refl _) _ _).set_new (Nat.le_refl _) _ _).set_new (Nat.le_refl _) _ _⟩
   ·refine RepT.kept hset (by omega) (fun i p h => ?_) _ _ HREP6.out
    obtain ⟨q, h1, h2⟩ := h
    exact ⟨q, h1, by rw [HNM.out]; exact h2⟩
   ·refine RepT.kept (keeps_refl _ _) (Nat.le_refl _) (fun i p h => ?_) _ _ (RepT.kept hset (by omega) (fun i p h => h) _ _ (RepT.kept (keeps_refl _ _) (show w.heap.size + 1 <= w1.heap.size + 1 by omega) (fun i p h => h) _ _ HRES6.out))
    exact h
theorem lineByte (s : List UInt8) (w : World) : Calls Tryz.prog 182 #[.string (bs s), .int .u8 10] w fun e w' => e = .returned (.int .i64 (Lib.indexByte s 10)) /\ w' = w := by
 go_enter Tryz.func182, Tryz.ntmps182
 go_wp2
 rw [run_callFunc_extern Tryz.func219 (by kernel_rfl) (by kernel_rfl) (by kernel_rfl) (e := Extern.BytealgIndexByte.indexByte) (by kernel_rfl), Lib.run_indexByteString]
 simp only [Result.andThen]
 rw [Oper.upon_value]
 go_wp2
 go_ret
 refine ⟨ret_int ?_, rfl⟩
 show Lib.indexByte (bl (bs s)) _ = _
 rw [bl_bs]
theorem lineIndex (s : List UInt8) (w : World) : Calls Tryz.prog 145 #[.string (bs s), .string ⟨#[10]⟩] w fun e w' => e = .returned (.int .i64 (Lib.indexByte s 10)) /\ w' = w := by
 have hcmp : ([10] == (bs s).toList) = decide (s = [10]) := by
  rw [ByteArray.toList_eq]
  show ([10] == bl (bs s)) = _
  rw [bl_bs]
  by_cases h : s = [10]
  ·rw [h]; rfl
  ·rw [decide_eq_false h]
   exact beq_eq_false_iff_ne.2 (fun e => h e.symm)
 by_cases h : s = [10]
 ·have HI : Hid (Lib.indexByte s 10 = 0) := by rw [h]; exact rfl
  rw [decide_eq_true h] at hcmp
  clear h
  go_enter Tryz.func145, Tryz.ntmps145
  go_wp2_with fail
  go_ret
  exact ⟨ret_int HI.out.symm, rfl⟩
 ·rw [decide_eq_false h] at hcmp
  clear h
  go_enter Tryz.func145, Tryz.ntmps145
  go_wp2_with fail
  refine (lineByte s w).mono ?_
  rintro e w' ⟨rfl, rfl⟩
  go_wp2
  go_ret
  exact ⟨rfl, rfl⟩
theorem indexByte_no : ∀ {s : List UInt8}, 10 ∉ s -> Lib.indexByte s 10 = -1
 | [], _ => rfl
 | a :: s, h => by
  have h1 : a ≠ 10 := fun e => h (by rw [e]; simp)
  have h2 := indexByte_no (s := s) (fun e => h (List.mem_cons_of_mem _ e))
  unfold Lib.indexByte
  have : (a == 10) = false := by simpa using h1
  rw [this, h2]; rfl
theorem indexByte_yes : ∀ {s : List UInt8}, 10 ∈ s -> Lib.indexByte s 10 = ((Code.headOf s).length : Nat)
 | a :: s, h => by
  by_cases ha : a = 10
  ·subst ha; rfl
  ·have hm : 10 ∈ s := by
    rcases List.mem_cons.1 h with h | h
    ·exact absurd h.symm ha
    ·exact h
   have h2 := indexByte_yes hm
   have e2 : Code.headOf (a :: s) = a :: Code.headOf s := by
    have hb : (a != 10) = true := by simpa using ha
    unfold Code.headOf; rw [List.takeWhile_cons, if_pos hb]
   unfold Lib.indexByte
   have h3 : (a == 10) = false := by simpa using ha
   have h4 : ((((Code.headOf s).length : Nat) : Int) == -1) = false := beq_eq_false_iff_ne.2 (by omega)
   rw [h3, h2, h4, e2]
   simp
theorem lineCut (s : List UInt8) (w : World) (hs : s.length <= 3000) : Calls Tryz.prog 98 #[.string (bs s), .string ⟨#[10]⟩] w fun e w' =>
  ((10 ∈ s /\ e = .returned (.tuple #[.string (bs (Code.headOf s)), .string (bs (Code.nextOf s)), .bool true])) \/ (10 ∉ s /\ e = .returned (.tuple #[.string (bs s), .string (bs []), .bool false]))) /\ Below w.heap.size w w' := by
 have e1 := bs_size s
 by_cases h : 10 ∈ s
 ·obtain ⟨_, hsp⟩ := Code.nextOf_length h
  have hlen : (Code.headOf s).length + 1 <= s.length := by have := congrArg List.length hsp; simp at this; omega
  have HI := hide (indexByte_yes h)
  have HM := hide h
  clear h
  have HII := hide (lineIndex s w)
  rw [HI.out] at HII
  have HA : Hid (bs (Code.headOf s) = (bs s).extract 0 (Code.headOf s).length) /\ Hid (bs (Code.nextOf s) = (bs s).extract ((Code.headOf s).length + 1) (bs s).size) := by
   generalize Code.headOf s = a at hsp ⊢
   generalize Code.nextOf s = b at hsp ⊢
   subst hsp
   constructor
   ·refine hide (bl_inj ?_)
    rw [bl_extract, bl_bs, bl_bs]; simp
   ·refine hide (bl_inj ?_)
    rw [bl_extract_end, bl_bs, bl_bs]; simp
  obtain ⟨HX, HY⟩ := HA
  generalize hn : (Code.headOf s).length = n at *
  have h1 : n <= (bs s).size := by omega
  have h2 : n + 1 <= (bs s).size := by omega
  have h3 : (bs s).size <= 3000 := by omega
  have h4 : ¬ ((bs s).size : Int) < (n : Int) := by omega
  have h5 : ¬ ((bs s).size : Int) < (n : Int) + 1 := by omega
  clear hsp hlen e1 hn HI
  generalize bs (Code.headOf s) = A at *
  generalize bs (Code.nextOf s) = B at *
  generalize bs s = S at *
  go_enter Tryz.func98, Tryz.ntmps98
  go_wp2_with fail
  refine (HII.out).mono ?_
  rintro e w' ⟨rfl, rfl⟩
  go_wp2_with fail
  go_quiet (fail)
  go_wp2
  refine bodyPost_ret (v := .tuple #[.string A, .string B, .bool true]) (by rw [HX.out, HY.out]; simp [results, Tryz.results98, go_sem]) rfl ?_
  exact ⟨Or.inl ⟨HM.out, rfl⟩, belowN (Below.refl _ _) _⟩
 ·have HI := hide (indexByte_no h)
  go_enter Tryz.func98, Tryz.ntmps98
  go_wp2_with fail
  refine (lineIndex s w).mono ?_
  rw [HI.out]
  rintro e w' ⟨rfl, rfl⟩
  go_wp2
  refine bodyPost_ret (v := .tuple #[.string (bs s), .string (bs []), .bool false]) (by simp [results, Tryz.results98, go_sem]; rfl) rfl ?_
  exact ⟨Or.inr ⟨h, rfl⟩, Below.refl _ _⟩
theorem lineCut_any (s : List UInt8) (w : World) (hs : s.length <= 3000) : Calls Tryz.prog 58 #[.string (bs s), .string ⟨#[10]⟩] w fun e w' =>
  ((10 ∈ s /\ e = .returned (.tuple #[.string (bs (Code.headOf s)), .string (bs (Code.nextOf s)), .bool true])) \/ (10 ∉ s /\ e = .returned (.tuple #[.string (bs s), .string (bs []), .bool false]))) /\ Below w.heap.size w w' := by
 have HC := hide (lineCut s w hs)
 go_enter Tryz.func58, Tryz.ntmps58
 go_wp2_with fail
 refine (HC.out).mono ?_
 rintro e w' ⟨⟨h, rfl⟩ | ⟨h, rfl⟩, hb⟩
 ·have HH := hide h
  clear h
  go_wp2
  refine bodyPost_ret (v := .tuple #[.string (bs (Code.headOf s)), .string (bs (Code.nextOf s)), .bool true]) (by simp [results, Tryz.results58, go_sem]) rfl ?_
  exact ⟨Or.inl ⟨HH.out, rfl⟩, hb⟩
 ·have HH := hide h
  clear h
  go_wp2
  refine bodyPost_ret (v := .tuple #[.string (bs s), .string (bs []), .bool false]) (by simp [results, Tryz.results58, go_sem]) rfl ?_
  exact ⟨Or.inr ⟨HH.out, rfl⟩, hb⟩
theorem RepR.kept {w w' : World} {base base' : Nat} {R : CRule} {k : Nat} {sv rv : Value} (hk : KeepsT w w' base) (hb : base' <= base) (h : RepR w base R k sv rv) : RepR w' base' R k sv rv :=
 ⟨RepT.kept hk hb (fun _ _ h => h) _ _ h.1, RepT.kept hk hb (fun _ _ h => h) _ _ h.2.1, h.2.2⟩
def RepRules (w : World) (base : Nat) (v : Value) (l : List CRule) : Prop :=
 ∃ cs, w.ownsRow base 123 3 v l.length cs /\ ∀ i (h : i < l.length), ∃ k sv rv, cs[i * 3]? = some (.int .i64 (k : Nat)) /\ cs[i * 3 + 1]? = some sv /\ cs[i * 3 + 2]? = some rv /\ RepR w base l[i] k sv rv
theorem keeps_below {w w' : World} {base : Nat} (hb : Below w.heap.size w w') : KeepsT w w' base := fun b _ _ _ hc _ _ => (hb.block b (lt_of_block hc)).trans hc
theorem RepRules.below {w w' : World} {base : Nat} {v : Value} {l : List CRule} (h : RepRules w base v l) (hb : Below w.heap.size w w') : RepRules w' base v l := by
 obtain ⟨cs, h1, h2⟩ := h
 refine ⟨cs, own_below h1 hb, fun i hi => ?_⟩
 obtain ⟨k, sv, rv, a, b, c, d⟩ := h2 i hi
 exact ⟨k, sv, rv, a, b, c, d.kept (keeps_below hb) (Nat.le_refl _)⟩
theorem keeps_grown {w w3 : World} {base b' e size n : Nat} {v : Value} {xs : List Value} (h : w.ownsRow b' e size v n xs) (hg : w.grownBy w3 v.ownBlock) (h1 : e ≠ 262) (h2 : e ≠ 121) : KeepsT w w3 base := fun b C T z hc hT _ => by
 refine stay_grown h hg hc ?_
 rcases hT with rfl | rfl
 ·exact fun e => h1 e.symm
 ·exact fun e => h2 e.symm
theorem RepRules.snoc {w w3 : World} {base : Nat} {v v' : Value} {l : List CRule} {cs : List Value} {R : CRule} {k : Nat} {sv rv : Value} (h1 : w.ownsRow base 123 3 v l.length cs)
  (h2 : ∀ i (h : i < l.length), ∃ k sv rv, cs[i * 3]? = some (.int .i64 (k : Nat)) /\ cs[i * 3 + 1]? = some sv /\ cs[i * 3 + 2]? = some rv /\ RepR w base l[i] k sv rv)
  (h3 : w3.ownsRow base 123 3 v' (l.length + 1) (cs ++ [.int .i64 (k : Nat), sv, rv])) (h4 : RepR w base R k sv rv) (hg : w.grownBy w3 v.ownBlock) : RepRules w3 base v' (l ++ [R]) := by
 have hks : KeepsT w w3 base := keeps_grown h1 hg (by decide) (by decide)
 have hl : cs.length = l.length * 3 := h1.1
 refine ⟨_, by simpa using h3, fun i hi => ?_⟩
 by_cases hlt : i < l.length
 ·obtain ⟨k', sv', rv', a, b, c, d⟩ := h2 i hlt
  refine ⟨k', sv', rv', ?_, ?_, ?_, ?_⟩
  ·rw [List.getElem?_append_left (by omega)]; exact a
  ·rw [List.getElem?_append_left (by omega)]; exact b
  ·rw [List.getElem?_append_left (by omega)]; exact c
  ·rw [List.getElem_append_left hlt]; exact d.kept hks (Nat.le_refl _)
 ·have hi' : i = l.length := by simp at hi; omega
  subst hi'
  refine ⟨k, sv, rv, ?_, ?_, ?_, ?_⟩
  ·rw [List.getElem?_append_right (by omega), hl]; simp
  ·rw [List.getElem?_append_right (by omega), hl, show l.length * 3 + 1 - l.length * 3 = 1 by omega]; rfl
  ·rw [List.getElem?_append_right (by omega), hl, show l.length * 3 + 2 - l.length * 3 = 2 by omega]; rfl
  ·simpa using h4.kept hks (Nat.le_refl _)
def faultV (why l : Int) : Ending := .panicked [{ v := .iface 61 (.agg #[.int .i64 why, .int .i64 l]), recovered := false }]
def ReadPost (o : Except (Nat × Int) (List CRule)) (w : World) (e : Ending) (w' : World) : Prop :=
 ((∃ rs v, o = .ok rs /\ e = .returned v /\ RepRules w' w.heap.size v rs) \/ (∃ n why, o = .error (n, why) /\ e = faultV why (n : Nat))) /\ Below w.heap.size w w'
def strLen : Value -> Nat
 | .string b => b.size
 | _ => 0
theorem infoRule : (Tryz.prog.info? 123).map (fun i => (i.zero, i.size, i.bytes)) = some (some (.agg #[.int .i64 0, .slice none 0 0, .nilIface]), 3, 48) := by kernel_rfl
theorem Kin.new {w w' : World} {o : Obj} (h : Kin (w.alloc o) w' w.heap.size (w.heap.size + 1)) : Below w.heap.size w w' := by
 refine ⟨h.os, h.tape, h.output, by have := h.size; simp at this; omega, fun k hk => ?_⟩
 have h1 : w.heap[k]? = some w.heap[k] := Array.getElem?_eq_getElem hk
 rw [h1]
 exact h.block k _ (by rw [Below.heap_alloc w o k hk]; exact h1) (by omega) (Or.inl (by omega))
def mapOk (done : List CRule) (o : Except (Nat × Int) (List CRule)) : Except (Nat × Int) (List CRule) := o.map fun l => done ++ l
theorem rdr_new (w : World) (s : List UInt8) (l : Int) : Rdr (w.alloc (.cells #[.string (bs s), .int .i64 l, .int .i64 6, .slice none 0 0, .bool false] 115)) w.heap.size (w.heap.size + 1) s l ⟨[], false⟩ :=
 ⟨.slice none 0 0, heap_alloc_new w _, by simp [nmCells], Or.inl ⟨rfl, rfl⟩⟩
theorem rulesRead_long (s : List UInt8) (w : World) (hs : 3000 < s.length) :
  Calls Tryz.prog 30 #[.string (bs s)] w fun e w' => e = faultV 6 0 /\ Below w.heap.size w w' := by
 have e1 := bs_size s
 have h : (3000 : Int) < (s.length : Int) := by omega
 go_enter Tryz.func30, Tryz.ntmps30
 go_wp2
 exact ⟨rfl, rfl, Below.refl _ _⟩
theorem Code.RulesS.step {n : Nat} {s : List UInt8} {o : Except (Nat × Int) (List CRule)} (h : Code.RulesS n s o) (hs : s ≠ []) :
  (10 ∉ s /\ o = .error (n, 6)) \/ (10 ∈ s /\ ((Code.idle (Code.headOf s) /\ Code.RulesS (n + 1) (Code.nextOf s) o) \/ (¬ Code.idle (Code.headOf s) /\ ((∃ e, Code.lineS (Code.headOf s) = .error e /\ o = .error (n, e)) \/
   (∃ nd rs ns o', Code.lineS (Code.headOf s) = .ok (nd, rs, ns) /\ Code.RulesS (n + 1) (Code.nextOf s) o' /\ o = mapOk [⟨nd, rs, ns⟩] o'))))) := by
 cases h with
 | done => exact absurd rfl hs
 | open_ h1 h2 => exact Or.inl ⟨h2, rfl⟩
 | idle h1 h2 h3 => exact Or.inr ⟨h1, Or.inl ⟨h2, h3⟩⟩
 | bad h1 h2 h3 => exact Or.inr ⟨h1, Or.inr ⟨h2, Or.inl ⟨_, h3, rfl⟩⟩⟩
 | more h1 h2 h3 h4 => exact Or.inr ⟨h1, Or.inr ⟨h2, Or.inr ⟨_, _, _, _, h3, h4, rfl⟩⟩⟩
theorem Code.RulesS.nil {n : Nat} {o : Except (Nat × Int) (List CRule)} (h : Code.RulesS n [] o) : o = .ok [] := by
 cases h with
 | done => rfl
 | open_ h => exact absurd rfl h
 | idle h => cases h
 | bad h => cases h
 | more h => cases h
theorem mapOk_app (a b : List CRule) (o : Except (Nat × Int) (List CRule)) : mapOk a (mapOk b o) = mapOk (a ++ b) o := by
 cases o with
 | error e => rfl
 | ok l => simp [mapOk, Except.map]
theorem rulesRead_any (s : List UInt8) (w : World) (hs : s.length <= 3000) (ht : Tab w) (hw : 0 < w.heap.size) (o : Except (Nat × Int) (List CRule)) (ho : Code.RulesS 1 s o) :
  Calls Tryz.prog 30 #[.string (bs s)] w fun e w' => ReadPost o w e w' := by
 obtain ⟨i0, hi, hz0, hz1, hz2⟩ := info_parts infoRule
 have e1 := bs_size s
 have HT := hide ht
 have HO := hide ho
 have hlen : ¬ (3000 : Int) < (s.length : Int) := by omega
 clear ht ho
 go_enter Tryz.func30, Tryz.ntmps30
 go_wp2_with fail
 clear e1
 go_loopw [0, 3, 4] (fun tv rv nv wr => ∃ (t : List UInt8) (done : List CRule) (n : Nat) (o' : Except (Nat × Int) (List CRule)), tv = .string (bs t) /\ nv = .int .i64 (n : Nat) /\ t.length <= 3000 /\ n + t.length <= 3001 /\ done.length <= n /\ RepRules wr w.heap.size rv done /\ Below w.heap.size w wr /\ Hid (Code.RulesS n t o') /\ Hid (o = mapOk done o')) (fun tv _ _ _ => strLen tv)
 case atStart =>
  refine ⟨s, [], 1, o, rfl, rfl, hs, by omega, by simp, ⟨[], ⟨rfl, Or.inl ⟨rfl, rfl⟩⟩, fun i h => by simp at h⟩, Below.refl _ _, HO, ?_⟩
  cases o with
  | error e => exact rfl
  | ok l => exact rfl
 case round =>
  obtain ⟨t, done, n, o', rfl, rfl, htl, hnt, hdn, hrep, hbw, hRS, hOO⟩ := hrel
  clear HO
  have hnil := str_nil t
  have ht1 := HT.out.below hbw
  have hz := hbw.size
  have e2 := bs_size t
  by_cases hte : t = []
  ·have HFIN : Hid (o = .ok done) := by
    have h := hRS.out
    rw [hte] at h
    rw [hOO.out, h.nil]
    simp [Hid, mapOk, Except.map]
   rw [decide_eq_true hte] at hnil
   have HREP := hide hrep
   obtain ⟨cs, hcs, _⟩ := hrep
   obtain ⟨dp, dc, rfl⟩ := own_slice hcs
   clear hte hcs hRS hOO
   go_wp2
   go_ret
   exact ⟨Or.inl ⟨done, _, HFIN.out, rfl, HREP.out⟩, hbw⟩
  ·rw [decide_eq_false hte] at hnil
   have hstep := hRS.out.step hte
   have HSTEP := hide hstep
   have HREP := hide hrep
   obtain ⟨cs, hcs, hcs2⟩ := hrep
   obtain ⟨dp, dc, rfl⟩ := own_slice hcs
   have HLC := hide (lineCut_any t wr htl)
   clear hte hRS hstep hcs hcs2
   have hnn : n <= 3001 := by omega
   go_wp2_with fail
   refine (HLC.out).mono ?_
   rintro e w1 ⟨⟨h10, rfl⟩ | ⟨h10, rfl⟩, hb1⟩
   case inr =>
    have HFIN : Hid (o = .error (n, 6)) := by
     rcases HSTEP.out with ⟨_, h⟩ | ⟨h, _⟩
     ·rw [hOO.out, h]; exact rfl
     ·exact absurd h h10
    have hbw1 := hbw.trans (hb1.mono hz)
    clear HSTEP hOO h10
    go_wp2_with fail
    refine (fail_rdr w1.heap.size (w1.heap.size + 1) t n ⟨[], false⟩ _ (rdr_new w1 t n)).mono ?_
    rintro e w2 ⟨rfl, hk2⟩
    go_wp2
    exact ⟨rfl, Or.inr ⟨n, 6, HFIN.out, rfl⟩, hbw1.trans (hk2.new.mono hbw1.size)⟩
   have hbw1 := hbw.trans (hb1.mono hz)
   have HREP1 : Hid (RepRules w1 w.heap.size (.slice dp done.length dc) done) := HREP.out.below hb1
   have HS2 : Hid ((Code.idle (Code.headOf t) /\ Code.RulesS (n + 1) (Code.nextOf t) o') \/ (¬ Code.idle (Code.headOf t) /\ ((∃ e, Code.lineS (Code.headOf t) = .error e /\ o' = .error (n, e)) \/
     (∃ nd rs ns o2, Code.lineS (Code.headOf t) = .ok (nd, rs, ns) /\ Code.RulesS (n + 1) (Code.nextOf t) o2 /\ o' = mapOk [⟨nd, rs, ns⟩] o2)))) := by
    rcases HSTEP.out with ⟨h, _⟩ | ⟨_, h⟩
    ·exact absurd h10 h
    ·exact h
   obtain ⟨hnl, hsp⟩ := Code.nextOf_length h10
   have hhl : (Code.headOf t).length + 1 + (Code.nextOf t).length = t.length := by
    have := congrArg List.length hsp
    simp at this; omega
   have e3 := bs_size (Code.headOf t)
   have e4 := bs_size (Code.nextOf t)
   have hnil2 := str_nil (Code.headOf t)
   have hzz1 := hbw1.size
   clear HSTEP h10 hsp HREP hb1 HLC
   have hidle : Code.idle (Code.headOf t) ↔ (Code.headOf t = [] \/ (Code.headOf t).head? = some 59) := Iff.rfl
   generalize Code.headOf t = a at *
   generalize Code.nextOf t = t2 at *
   by_cases ha : Code.idle a
   ·have HN : Hid (Code.RulesS (n + 1) t2 o') := by
     rcases HS2.out with ⟨_, h⟩ | ⟨h, _⟩
     ·exact h
     ·exact absurd ha h
    rcases hidle.1 ha with ha0 | ha1
    ·rw [decide_eq_true ha0] at hnil2
     clear ha ha0 hidle HS2
     go_wp2
     exact ⟨⟨t2, done, n + 1, o', rfl, by go_num, by omega, by omega, by omega, HREP1.out.below (below_al (Below.refl _ _) _), below_al hbw1 _, HN, hOO⟩, by simp only [strLen, bs_size]; omega⟩
    ·obtain ⟨a', rfl⟩ : ∃ a', a = 59 :: a' := by
      cases a with
      | nil => cases ha1
      | cons c a' => simp at ha1; exact ⟨a', by rw [ha1]⟩
     have hpos : 0 < (bs (59 :: a')).size := by rw [bs_size]; simp
     have hq : (((bs (59 :: a'))[0]'hpos).toNat : Int) = 59 := by rw [bs_get _ 0 (by simp)]; rfl
     rw [decide_eq_false (by simp)] at hnil2
     clear ha ha1 hidle HS2
     generalize hA : 59 :: a' = A at *
     go_wp2
     exact ⟨⟨t2, done, n + 1, o', rfl, by go_num, by omega, by omega, by omega, HREP1.out.below (below_al (Below.refl _ _) _), below_al hbw1 _, HN, hOO⟩, by simp only [strLen, bs_size]; omega⟩
   ·have hne : a ≠ [] := fun h => ha (hidle.2 (Or.inl h))
    have hpos' : 0 < a.length := List.length_pos_iff.2 hne
    have hpos : 0 < (bs a).size := by rw [bs_size]; exact hpos'
    have hq : ¬ (((bs a)[0]'hpos).toNat : Int) = 59 := by
     rw [bs_get a 0 hpos']
     intro h
     refine ha (hidle.2 (Or.inr ?_))
     rw [List.head?_eq_getElem?, List.getElem?_eq_getElem hpos']
     congr 1
     exact UInt8.toNat.inj (by have : (a[0].toNat : Int) = 59 := h; show a[0].toNat = 59; omega)
    have hq2 : ((((bs a)[0]'hpos).toNat : Int) == 59) = false := beq_eq_false_iff_ne.2 hq
    rw [decide_eq_false hne] at hnil2
    have HS3 : Hid ((∃ e, Code.lineS a = .error e /\ o' = .error (n, e)) \/ (∃ nd rs ns o2, Code.lineS a = .ok (nd, rs, ns) /\ Code.RulesS (n + 1) t2 o2 /\ o' = mapOk [⟨nd, rs, ns⟩] o2)) := by
     rcases HS2.out with ⟨h, _⟩ | ⟨_, h⟩
     ·exact absurd h ha
     ·exact h
    clear ha hne hidle HS2
    have hba := below_al (Below.refl w1.heap.size w1) (.cells #[.string (bs a), .int .i64 (n : Nat), .int .i64 6, .slice none 0 0, .bool false] 115)
    go_wp2_with fail
    refine (rule_any w1.heap.size (w1.heap.size + 1) a n _ (rdr_new w1 a n) (by omega) (HT.out.below (below_al hbw1 _)) (by omega) (by omega) (by simp)).mono ?_
    rintro e w3 (⟨nd, rs, ns, k, sv, rv, hc, rfl, hrr, hk3⟩ | ⟨why, hc, rfl, hk3⟩)
    case inr =>
     have HFIN : Hid (o = .error (n, why)) := by
      rcases HS3.out with ⟨e, h1, h2⟩ | ⟨_, _, _, _, h1, _⟩
      ·rw [hc] at h1
       simp only [Except.error.injEq] at h1
       rw [hOO.out, h2, h1]; exact rfl
      ·rw [hc] at h1; cases h1
     clear hc HS3 hOO
     go_wp2
     exact ⟨rfl, Or.inr ⟨n, why, HFIN.out, rfl⟩, hbw1.trans (hk3.new.mono hbw1.size)⟩
    obtain ⟨o2, HN2, HO2⟩ : ∃ o2, Hid (Code.RulesS (n + 1) t2 o2) /\ Hid (o = mapOk (done ++ [⟨nd, rs, ns⟩]) o2) := by
     rcases HS3.out with ⟨e, h1, h2⟩ | ⟨nd', rs', ns', o2, h1, h2, h3⟩
     ·rw [hc] at h1; cases h1
     ·rw [hc] at h1
      simp only [Except.ok.injEq, Prod.mk.injEq] at h1
      obtain ⟨rfl, rfl, rfl⟩ := h1
      exact ⟨o2, h2, by rw [hOO.out, h3, mapOk_app]; exact rfl⟩
    have hb3 : Below w1.heap.size w1 w3 := hk3.new
    have hbw3 := hbw1.trans (hb3.mono hbw1.size)
    have hz3 := hbw3.size
    obtain ⟨T, x, rfl⟩ := hrr.2.1.shape
    obtain ⟨k', kids', hnode, hke, _, sp, sn, sc, rfl⟩ := hrr.1.op_eq
    have HRR : Hid (RepR w3 w.heap.size ⟨nd, rs, ns⟩ k (.slice sp sn sc) (.iface T x)) := hrr.kept (keeps_refl _ _) (by simp; omega)
    have HREP3 : Hid (RepRules w3 w.heap.size (.slice dp done.length dc) done) := HREP1.out.below hb3
    obtain ⟨cs, hcs1, hcs2⟩ := HREP3.out
    have HCS := hide hcs2
    clear hc HS3 hOO hrr hnode hke hcs2 hba hk3 HREP1
    go_wp2_with (first | (at_builtin; refine wpList_append_own _ rfl _ _ 59 rfl w.heap.size 123 i0 (.agg #[.int .i64 0, .slice none 0 0, .nilIface]) 3 48 Tryz.underlying59 hi hz0 hz1 hz2 rfl (by decide) _ _ _ rfl (hcs1.alloc _) ⟨_, 0, none⟩ 1 1 [.int .i64 (k : Nat), .slice sp sn sc, .iface T x] rfl rfl (D.cells_new _ _ _) (fun x hx => by simp at hx; rcases hx with rfl | rfl | rfl <;> rfl) (by unfold maxLen; omega) (by omega) (by simp; omega) ?_; intro v' w6 hown' hgrow6 hnil6))
    have hba := below_al (Below.refl w3.heap.size w3) (.cells #[.int .i64 (k : Nat), .slice sp sn sc, .iface T x] 123)
    refine ⟨⟨t2, done ++ [⟨nd, rs, ns⟩], n + 1, o2, rfl, by go_num, by omega, by omega, by simp; omega, ?_, ?_, HN2, HO2⟩, by simp only [strLen, bs_size]; omega⟩
    ·refine RepRules.snoc (hcs1.alloc _) (fun i h => ?_) hown' (HRR.out.kept (keeps_below hba) (Nat.le_refl _)) hgrow6
     obtain ⟨k2, sv2, rv2, g0, g1, g2, g3⟩ := HCS.out i h
     exact ⟨k2, sv2, rv2, g0, g1, g2, g3.kept (keeps_below hba) (Nat.le_refl _)⟩
    ·have hb6 := below_al hbw3 (.cells #[.int .i64 (k : Nat), .slice sp sn sc, .iface T x] 123)
     exact ⟨hgrow6.os.trans hb6.os, hgrow6.tape.trans hb6.tape, hgrow6.output.trans hb6.output, Nat.le_trans hb6.size hgrow6.size, fun q hq => (hgrow6.block q (by have := hb6.size; omega) (fun e => by have := (hcs1.lt q e.symm).1; omega)).trans (hb6.block q hq)⟩
theorem catchR_idle (p : Addr) (w : World) :
  CallsD Tryz.prog 56 #[.pointer (some p)] .returning w fun e u' w' => e = .returned (.tuple #[]) /\ u' = .returning /\ w' = w := by
 refine callsD_of_wpS Tryz.func56 rfl fun c₀ cs hu => ?_
 apply wpS_seq
 apply wpS_region
 simp [wpOpsS, go_sem, recoverD, hu, Tryz.ntmps56, Exit.thenS]
 apply wpS_seq
 apply wpS_region
 simp [wpOpsS, go_sem, nilNe, Exit.thenS]
 refine wpS_cond (t := false) (by simp [Act.eval, Array.replicate]) ?_
 simp only [Bool.false_eq_true, if_false]
 refine wpS_of_wp (wp_skip ?_)
 cases c₀
 simp_all [bodyPostS, results, Tryz.results56]
theorem catchR_fault (b : Nat) (x y why l : Int) (w : World) (hb : w.heap[b]? = some (.cells #[.int .i64 x, .int .i64 y] 61)) :
  CallsD Tryz.prog 56 #[.pointer (some ⟨b, 0, none⟩)] (.panicking [{ v := .iface 61 (.agg #[.int .i64 why, .int .i64 l]), recovered := false }]) w fun e u' w' =>
   e = .returned (.tuple #[]) /\ u' = .panicking [{ v := .iface 61 (.agg #[.int .i64 why, .int .i64 l]), recovered := true }] /\ ∃ w1, Below w.heap.size w w1 /\ w' = (w1.setCell ⟨b, 0, none⟩ (.int .i64 why)).setCell ⟨b, 1, none⟩ (.int .i64 l) := by
 refine callsD_of_wpS Tryz.func56 rfl fun c₀ cs hu => ?_
 apply wpS_seq
 apply wpS_region
 simp [wpOpsS, go_sem, recoverD, hu, Tryz.ntmps56, Exit.thenS]
 apply wpS_seq
 apply wpS_region
 simp [wpOpsS, go_sem, someNe, Exit.thenS]
 refine wpS_cond (t := true) (by simp [Act.eval, Array.replicate]) ?_
 simp only [if_true]
 refine wpS_of_wp ?_
 have ht : (#[Value.pointer (some ⟨b, 0, none⟩)] ++
     ((((Array.replicate 6 undef).setIfInBounds 1
                   (Value.iface 61
                     (Value.agg #[Value.int IntKind.i64 why, Value.int IntKind.i64 l]))).setIfInBounds
               0 (Value.iface 61 (Value.agg #[Value.int IntKind.i64 why, Value.int IntKind.i64 l]))).setIfInBounds
           2 (Value.iface 61 (Value.agg #[Value.int IntKind.i64 why, Value.int IntKind.i64 l]))).setIfInBounds
      3 (Value.bool true)) = #[.pointer (some ⟨b, 0, none⟩), .iface 61 (.agg #[.int .i64 why, .int .i64 l]), .iface 61 (.agg #[.int .i64 why, .int .i64 l]), .iface 61 (.agg #[.int .i64 why, .int .i64 l]), .bool true, undef, undef] := by rfl
 rw [ht]
 go_wp2_with fail
 refine (faultOf_any why l w).mono ?_
 rintro e w1 ⟨rfl, hb1⟩
 have hbb := (hb1.block _ (lt_of_block hb)).trans hb
 have c0 := blk_cell hbb 0 _ rfl
 have c1 := blk_cell hbb 1 _ rfl
 have z0 := blk_froz hbb 0
 have z1 := blk_froz hbb 1
 go_wp2
 simp [bodyPostS, results, Tryz.results56]
 exact ⟨w1, hb1, rfl⟩
def RulesAre (s : List UInt8) (o : Except (Nat × Int) (List CRule)) : Prop := (3000 < s.length /\ o = .error (0, 6)) \/ (s.length <= 3000 /\ Code.RulesS 1 s o)
theorem read_rules (s : List UInt8) (o : Except (Nat × Int) (List CRule)) (ho : RulesAre s o) (w : World) (ht : Tab w) (hw : 0 < w.heap.size) : Calls Tryz.prog 30 #[.string (bs s)] w fun e w' => ReadPost o w e w' := by
 rcases ho with ⟨h1, rfl⟩ | ⟨h1, h2⟩
 ·refine (rulesRead_long s w h1).mono ?_
  rintro e w' ⟨rfl, hb⟩
  exact ⟨Or.inr ⟨0, 6, rfl, rfl⟩, hb⟩
 ·exact rulesRead_any s w h1 ht hw o h2
def FacePost (o : Except (Nat × Int) (List CRule)) (w : World) (e : Ending) (w' : World) : Prop :=
 ((∃ rs v, o = .ok rs /\ e = .returned (.tuple #[v, .agg #[.int .i64 0, .int .i64 0]]) /\ RepRules w' w.heap.size v rs) \/ (∃ n why, o = .error (n, why) /\ e = .returned (.tuple #[.slice none 0 0, .agg #[.int .i64 why, .int .i64 (n : Nat)]]))) /\ Below w.heap.size w w'
theorem RepRules.mono {w w' : World} {base base' : Nat} {v : Value} {l : List CRule} (h : RepRules w base v l) (ho : ∀ v n xs, w.ownsRow base 123 3 v n xs -> w'.ownsRow base' 123 3 v n xs) (hk : KeepsT w w' base) (hb : base' <= base) : RepRules w' base' v l := by
 obtain ⟨cs, h1, h2⟩ := h
 refine ⟨cs, ho _ _ _ h1, fun i hi => ?_⟩
 obtain ⟨k, sv, rv, a, b, c, d⟩ := h2 i hi
 exact ⟨k, sv, rv, a, b, c, d.kept hk hb⟩
theorem RepRules.setF {w : World} {base b o : Nat} {v u : Value} {l : List CRule} (h : RepRules w base v l) {C : Array Value} {z : Nat × Nat} (hb : w.heap[b]? = some (.cells C 61 z)) : RepRules (w.setCell ⟨b, o, none⟩ u) base v l := by
 refine h.mono (fun _ _ _ h => own_set h hb (by decide)) (fun q C' T z' h1 h2 _ => stay_set h1 ?_) (Nat.le_refl _)
 intro hq
 have h1' : w.heap[b]? = some (.cells C' T z') := by
  have hq' : q = b := hq
  rw [<- hq']; exact h1
 rw [hb] at h1'
 simp only [Option.some.injEq, Obj.cells.injEq] at h1'
 rcases h2 with rfl | rfl
 ·exact absurd h1'.2.1 (by decide)
 ·exact absurd h1'.2.1 (by decide)
theorem faceR_any (s : List UInt8) (o : Except (Nat × Int) (List CRule)) (ho : RulesAre s o) (w : World) (ht : Tab w) (hw : 0 < w.heap.size) :
  Calls Tryz.prog 29 #[.func (.func 30) #[] #[], .string (bs s)] w fun e w' => FacePost o w e w' := by
 have hmf : ∀ (fn : Fn) (first cap : Array Value) (w : World), (Instr.makeFunc fn first cap).run Tryz.prog w = .ok (.func fn first cap) w := fun _ _ _ _ => rfl
 have HO := hide ho
 have HT := hide ht
 clear ho ht
 go_enter_defers Tryz.func29, Tryz.ntmps29
 go_wp2_with fail
 generalize hw0 : w.alloc _ = w0
 have hx0 : w0.heap[w.heap.size]? = some (.cells #[.int .i64 0, .int .i64 0] 61) := by rw [<- hw0]; exact heap_alloc_new w _
 have hb0 : Below w.heap.size w w0 := by rw [<- hw0]; exact below_al (Below.refl _ _) _
 clear hw0
 have hz0 := hb0.size
 refine (read_rules s o HO.out w0 (HT.out.below hb0) (by omega)).mono ?_
 rintro e w1 ⟨⟨rs, v, hor, rfl, hrep⟩ | ⟨n, why, hor, rfl⟩, hb1⟩
 ·have hx1 := (hb1.block _ (lt_of_block hx0)).trans hx0
  have hbw1 : Below w.heap.size w w1 := hb0.trans (hb1.mono hb0.size)
  have HREP := hide hrep
  obtain ⟨cs, hcs, _⟩ := hrep
  obtain ⟨vp, vc, rfl⟩ := own_slice hcs
  have d0 := blk_cell hx1 0 _ rfl
  have d1 := blk_cell hx1 1 _ rfl
  have f0 := blk_froz hx1 0
  have f1 := blk_froz hx1 1
  clear hcs
  go_wp2
  refine leaves_cons (f := 56) (args := #[.pointer (some ⟨w.heap.size, 0, none⟩)]) (by simp) (by simp [go_sem]) ?_
  refine (catchR_idle ⟨w.heap.size, 0, none⟩ _).mono ?_
  rintro e u' w'' ⟨rfl, rfl, rfl⟩
  refine ⟨_, by simp [results, Tryz.results29, go_sem, d0, d1]; rfl, ?_⟩
  refine ⟨Or.inl ⟨rs, _, hor, rfl, ?_⟩, below_set (below_set hbw1 (Nat.le_refl _) _ _) (Nat.le_refl _) _ _⟩
  exact ((HREP.out.mono (fun _ _ _ h => own_base h hz0) (keeps_refl _ _) hz0).setF hx1).setF (set_block hx1)
 ·have hx1 := (hb1.block _ (lt_of_block hx0)).trans hx0
  have hbw1 : Below w.heap.size w w1 := hb0.trans (hb1.mono hb0.size)
  unfold faultV
  go_wp2
  refine leaves_cons (f := 56) (args := #[.pointer (some ⟨w.heap.size, 0, none⟩)]) (by simp) (by simp [go_sem]) ?_
  refine (catchR_fault w.heap.size 0 0 why n w1 hx1).mono ?_
  rintro e u' w'' ⟨rfl, rfl, w2, hb2, rfl⟩
  have hx2 := (hb2.block _ (lt_of_block hx1)).trans hx1
  have hbw2 : Below w.heap.size w w2 := hbw1.trans (hb2.mono hbw1.size)
  have hx3 := set_block (o := 1) (v := .int .i64 (n : Nat)) (set_block (o := 0) (v := .int .i64 why) hx2)
  have e0 := blk_cell hx3 0 (.int .i64 why) rfl
  have e1 := blk_cell hx3 1 (.int .i64 (n : Nat)) rfl
  simp [Leaves, settle, results, Tryz.results29, go_sem, e0, e1]
  exact ⟨Or.inr ⟨n, why, hor, rfl⟩, below_set (below_set hbw2 (Nat.le_refl _) _ _) (Nat.le_refl _) _ _⟩
end Go.Proofs.YtedkjanogjglkaaGreatDoor
