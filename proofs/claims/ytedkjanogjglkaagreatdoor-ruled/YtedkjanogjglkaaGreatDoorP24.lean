/-
  Parts of the proof: RRwK, RefScan, RefScan2, RefScan3, RDoc2, RefTree, RefLeaf, RefLeaf2.
-/
import Derived.Test.YtedkjanogjglkaaGreatDoorP23
import Derived.Recover
import Derived.BigQuiet
import Derived.Test.YtedkjanogjglkaaGreatDoorP01
import Derived.Test.YtedkjanogjglkaaGreatDoorP02
import Derived.Test.YtedkjanogjglkaaGreatDoorP09
import Derived.Test.YtedkjanogjglkaaGreatDoorP10
import Derived.Test.YtedkjanogjglkaaGreatDoorP07
namespace Go.Proofs.YtedkjanogjglkaaGreatDoor
open Go.RowKit
open Go.Proofs.YtedkjanogjglkaaGreatDoor.Code (RTree Nm RSt Prs CRule Pair)
theorem catchF_idle (p : Addr) (w : World) :
  CallsD Tryz.prog 73 #[.pointer (some p)] .returning w fun e u' w' => e = .returned (.tuple #[]) ∧ u' = .returning ∧ w' = w := by
 refine callsD_of_wpS Tryz.func73 rfl fun c₀ cs hu => ?_
 apply wpS_seq
 apply wpS_region
 simp [wpOpsS, go_sem, recoverD, hu, Tryz.ntmps73, Exit.thenS]
 apply wpS_seq
 apply wpS_region
 simp [wpOpsS, go_sem, nilNe, Exit.thenS]
 refine wpS_cond (t := false) (by simp [Act.eval, Array.replicate]) ?_
 simp only [Bool.false_eq_true, if_false]
 refine wpS_of_wp (wp_skip ?_)
 cases c₀
 simp_all [bodyPostS, results, Tryz.results73]
set_option maxHeartbeats 4000000 in
theorem faceF_ok (s : List UInt8) (f : Code.Fn) (w : World) (hs : s.length ≤ 1500) (ht : Tab w) (hf : Code.FnIs s f) (hr : Code.Right f.blocks) :
  Calls Tryz.prog 36 #[.func (.func 37) #[] #[], .string (bs s)] w fun e w' => ∃ p c, e = .returned (.tuple #[.agg #[.int .i64 (f.args : Nat), .slice p f.blocks.length c], .agg #[.int .i64 0, .int .i64 0]]) ∧ RepBlks w' 0 (.slice p f.blocks.length c) f.blocks ∧ Below w.heap.size w w' := by
 have hmf : ∀ (fn : Fn) (first cap : Array Value) (w : World), (Instr.makeFunc fn first cap).run Tryz.prog w = .ok (.func fn first cap) w := fun _ _ _ _ => rfl
 have HRD : Hid (∀ w1, Below w.heap.size w w1 → Calls Tryz.prog 37 #[.string (bs s)] w1 fun e w' => ∃ p c, e = .returned (.agg #[.int .i64 (f.args : Nat), .slice p f.blocks.length c]) ∧ RepBlks w' 0 (.slice p f.blocks.length c) f.blocks ∧ Below w1.heap.size w1 w') := hide fun w1 h1 => (read_ok s f w1 hs (ht.below h1) hf hr).mono fun e w' ⟨p, c, h2, h3, h4⟩ => ⟨p, c, h2, h3.mono (fun _ _ _ h => own_base h (Nat.zero_le _)) (fun _ _ _ h => own_base h (Nat.zero_le _)) (fun _ _ _ h => own_base h (Nat.zero_le _)), h4⟩
 clear ht hf hr
 go_enter_defers Tryz.func36, Tryz.ntmps36
 go_wp2_with fail
 have hx0 : ((w.alloc (.cells #[.int .i64 0, .slice none 0 0] 78)).alloc (.cells #[.int .i64 0, .int .i64 0] 61)).heap[w.heap.size]? = some (.cells #[.int .i64 0, .slice none 0 0] 78) := stay_alloc (heap_alloc_new w _)
 have hy0 := heap_alloc_new (w.alloc (.cells #[.int .i64 0, .slice none 0 0] 78)) (.cells #[.int .i64 0, .int .i64 0] 61)
 rw [alloc_size] at hy0
 have hb0 : Below w.heap.size w ((w.alloc (.cells #[.int .i64 0, .slice none 0 0] 78)).alloc (.cells #[.int .i64 0, .int .i64 0] 61)) := below_al (below_al (Below.refl _ _) _) _
 generalize (w.alloc (.cells #[.int .i64 0, .slice none 0 0] 78)).alloc (.cells #[.int .i64 0, .int .i64 0] 61) = w0 at *
 refine (HRD.out w0 hb0).mono ?_
 rintro e w1 ⟨p, c, rfl, hrep, hb1⟩
 have hx1 := (hb1.block _ (lt_of_block hx0)).trans hx0
 have hy1 := (hb1.block _ (lt_of_block hy0)).trans hy0
 have hbw1 : Below w.heap.size w w1 := hb0.trans (hb1.mono hb0.size)
 have HREP := hide hrep
 have c0 := blk_cell hx1 0 _ rfl
 have c1 := blk_cell hx1 1 _ rfl
 have g0 := blk_froz hx1 0
 have g1 := blk_froz hx1 1
 have d0 := blk_cell hy1 0 _ rfl
 have d1 := blk_cell hy1 1 _ rfl
 have f0 := blk_froz hy1 0
 have f1 := blk_froz hy1 1
 clear hrep
 go_wp2
 refine leaves_cons (f := 73) (args := #[.pointer (some ⟨w.heap.size + 1, 0, none⟩)]) (by simp) (by simp [go_sem]) ?_
 refine (catchF_idle ⟨w.heap.size + 1, 0, none⟩ _).mono ?_
 rintro e u' w'' ⟨rfl, rfl, rfl⟩
 have hx2 := set_block (o := 1) (v := .slice p f.blocks.length c) (set_block (o := 0) (v := .int .i64 (f.args : Nat)) hx1)
 have hy2 := stay_set (a := ⟨w.heap.size, 1, none⟩) (v := .slice p f.blocks.length c) (stay_set (a := ⟨w.heap.size, 0, none⟩) (v := .int .i64 (f.args : Nat)) hy1 (show w.heap.size + 1 ≠ w.heap.size by omega)) (show w.heap.size + 1 ≠ w.heap.size by omega)
 have hy3 := set_block (o := 1) (v := .int .i64 0) (set_block (o := 0) (v := .int .i64 0) hy2)
 have hx3 := stay_set (a := ⟨w.heap.size + 1, 1, none⟩) (v := .int .i64 0) (stay_set (a := ⟨w.heap.size + 1, 0, none⟩) (v := .int .i64 0) hx2 (show w.heap.size ≠ w.heap.size + 1 by omega)) (show w.heap.size ≠ w.heap.size + 1 by omega)
 have hr2 := (HREP.out.set (o := 0) (u := .int .i64 (f.args : Nat)) hx1 (by decide) (by decide) (by decide)).set (o := 1) (u := .slice p f.blocks.length c) (set_block hx1) (by decide) (by decide) (by decide)
 have hr3 := (hr2.set (o := 0) (u := .int .i64 0) hy2 (by decide) (by decide) (by decide)).set (o := 1) (u := .int .i64 0) (set_block hy2) (by decide) (by decide) (by decide)
 have hb3 : Below w.heap.size w ((((w1.setCell ⟨w.heap.size, 0, none⟩ (.int .i64 (f.args : Nat))).setCell ⟨w.heap.size, 1, none⟩ (.slice p f.blocks.length c)).setCell ⟨w.heap.size + 1, 0, none⟩ (.int .i64 0)).setCell ⟨w.heap.size + 1, 1, none⟩ (.int .i64 0)) := below_set (below_set (below_set (below_set hbw1 (Nat.le_refl _) _ _) (Nat.le_refl _) _ _) (by omega) _ _) (by omega) _ _
 have e0 := blk_cell hx3 0 (.int .i64 (f.args : Nat)) rfl
 have e1 := blk_cell hx3 1 (.slice p f.blocks.length c) rfl
 have e2 := blk_cell hy3 0 (.int .i64 0) rfl
 have e3 := blk_cell hy3 1 (.int .i64 0) rfl
 generalize (((w1.setCell ⟨w.heap.size, 0, none⟩ (.int .i64 (f.args : Nat))).setCell ⟨w.heap.size, 1, none⟩ (.slice p f.blocks.length c)).setCell ⟨w.heap.size + 1, 0, none⟩ (.int .i64 0)).setCell ⟨w.heap.size + 1, 1, none⟩ (.int .i64 0) = w5 at *
 refine ⟨.tuple #[.agg #[.int .i64 (f.args : Nat), .slice p f.blocks.length c], .agg #[.int .i64 0, .int .i64 0]], by simp [results, Tryz.results36, go_sem, e0, e1, e2, e3], ?_⟩
 exact ⟨p, c, rfl, hr3, hb3⟩
set_option maxRecDepth 100000 in
set_option maxHeartbeats 8000000 in
theorem chiselRewrite_given (rs ts : List UInt8) (picks : List Int) (l : List CRule) (f : Code.Fn) (out : List Code.Blk) (m : Nat) (er : Int) (pv : Value) (w : World) (hro : RulesAre rs (.ok l)) (hRin : ∀ R ∈ l, RuleIn R) (hRl : l.length ≤ 3000) (hlen : ts.length ≤ 1500) (hf : Code.FnIs ts f) (hr : Code.Right f.blocks) (hfine : Code.Fine f.blocks) (hfo : Code.NiceB out) (hargs : f.args < 1000) (hrew : Code.RewS f.args l picks 0 f.blocks out m er) (hmm : m ≤ 1000000) (hp : IntsAt w pv picks) (hin : ∀ p ∈ picks, -9223372036854775808 ≤ p ∧ p ≤ 9223372036854775807) (hi : TabI w) (ht : Tab w) (hw : 0 < w.heap.size) :
  Calls Tryz.prog 16 #[.string (bs rs), .string (bs ts), pv] w fun e w' => e = .returned (.tuple #[.string (bs (Code.wrF f.args out)), .int .i64 (m : Nat), .int .i64 er]) ∧ Below w.heap.size w w' := by
 have HFR := hide (faceR_any rs _ hro w ht hw)
 have HFF : Hid (∀ w1, Below w.heap.size w w1 → Calls Tryz.prog 36 #[.func (.func 37) #[] #[], .string (bs ts)] w1 fun e w' => ∃ p c, e = .returned (.tuple #[.agg #[.int .i64 (f.args : Nat), .slice p f.blocks.length c], .agg #[.int .i64 0, .int .i64 0]]) ∧ RepBlks w' 0 (.slice p f.blocks.length c) f.blocks ∧ Below w1.heap.size w1 w') := hide fun w1 h1 => faceF_ok ts f w1 hlen (ht.below h1) hf hr
 have HRW : Hid (∀ w4 rsv p c, Below w.heap.size w w4 → RepRules w4 0 rsv l → RepBlks w4 0 (.slice p f.blocks.length c) f.blocks → Calls Tryz.prog 38 #[rsv, .agg #[.int .i64 (f.args : Nat), .slice p f.blocks.length c], pv] w4 fun e w' => ∃ p' c', e = .returned (.tuple #[.agg #[.int .i64 (f.args : Nat), .slice p' out.length c'], .int .i64 (m : Nat), .int .i64 er]) ∧ RepBlks w' 0 (.slice p' out.length c') out ∧ Below w4.heap.size w4 w') := hide fun w4 rsv p c h4 h5 h6 => rewrite_any f.args l picks f.blocks out m er _ _ p c w4 h5 hRl hRin (hp.below h4) hin h6 hfine hargs (hi.below h4) (ht.below h4) hrew hmm
 have HTX : Hid (∀ w4 p' c', Below w.heap.size w w4 → RepBlks w4 0 (.slice p' out.length c') out → Calls Tryz.prog 39 #[.agg #[.int .i64 (f.args : Nat), .slice p' out.length c']] w4 fun e w' => e = .returned (.string (bs (Code.wrF f.args out))) ∧ Below w4.heap.size w4 w') := hide fun w4 p' c' h4 h5 => text_any f.args out p' c' w4 h5 hfo hargs (hi.below h4) (ht.below h4)
 obtain ⟨pp, pc, rfl, _⟩ := hp
 generalize Code.wrF f.args out = TO at *
 clear hro hi ht hin hf hr hfine hrew hfo hRin hlen
 go_enter Tryz.func16, Tryz.ntmps16
 go_wp2_with fail
 refine HFR.out.mono ?_
 rintro e w1 ⟨⟨l', v, hor, rfl, hrep⟩ | ⟨n, why, hor, rfl⟩, hb1⟩
 ·simp only [Except.ok.injEq] at hor
  subst hor
  have HREP : Hid (RepRules w1 0 v l) := hide (hrep.mono (fun _ _ _ h => own_base h (Nat.zero_le _)) (fun b C T z h _ _ => h) (Nat.zero_le _))
  obtain ⟨cs, hcs, _⟩ := hrep
  obtain ⟨vp, vc, rfl⟩ := own_slice hcs
  clear hcs HFR
  go_wp2_with fail
  have hx2 := heap_alloc_new w1 (.cells #[.int .i64 0, .int .i64 0] 61)
  have hb12 := below_al (Below.refl w1.heap.size w1) (.cells #[.int .i64 0, .int .i64 0] 61)
  have hb2 := hb1.trans (hb12.mono hb1.size)
  have HREP2 := hide (HREP.out.below hb12)
  generalize w1.alloc (.cells #[.int .i64 0, .int .i64 0] 61) = w2 at *
  have hgf := hb1.size
  generalize w1.heap.size = gf at *
  refine (HFF.out w2 hb2).mono ?_
  rintro e w3 ⟨p, c, rfl, hrepf, hb3⟩
  have hx3 := (hb3.block _ (lt_of_block hx2)).trans hx2
  have hbw3 := hb2.trans (hb3.mono hb2.size)
  have HREP3 := hide (HREP2.out.below hb3)
  have HRF := hide hrepf
  have q0 := blk_cell hx3 0 _ rfl
  have q1 := blk_cell hx3 1 _ rfl
  have z0 := blk_froz hx3 0
  have z1 := blk_froz hx3 1
  have hl3 := lt_of_block hx3
  clear hrepf HREP HREP2 hx2 hb2 hb3 hb12 hb1
  go_wp2_with fail
  have hbw4 : Below w.heap.size w (((w3.setCell ⟨gf, 0, none⟩ (.int .i64 0)).setCell ⟨gf, 1, none⟩ (.int .i64 0)).alloc (.cells #[.int .i64 (f.args : Nat), .slice p f.blocks.length c] 78)) := below_al (below_set (below_set hbw3 hgf _ _) hgf _ _) _
  have hal := below_al (Below.refl _ ((w3.setCell ⟨gf, 0, none⟩ (.int .i64 0)).setCell ⟨gf, 1, none⟩ (.int .i64 0))) (.cells #[.int .i64 (f.args : Nat), .slice p f.blocks.length c] 78)
  have HREP4 := hide (((HREP3.out.setF (o := 0) (u := .int .i64 0) hx3).setF (o := 1) (u := .int .i64 0) (set_block hx3)).below hal)
  have HRF4 := hide (((HRF.out.set (o := 0) (u := .int .i64 0) hx3 (by decide) (by decide) (by decide)).set (o := 1) (u := .int .i64 0) (set_block hx3) (by decide) (by decide) (by decide)).below hal)
  generalize ((w3.setCell ⟨gf, 0, none⟩ (.int .i64 0)).setCell ⟨gf, 1, none⟩ (.int .i64 0)).alloc (.cells #[.int .i64 (f.args : Nat), .slice p f.blocks.length c] 78) = w4 at *
  clear q0 q1 z0 z1 hl3 hx3 hbw3 HREP3 HRF hal
  refine (HRW.out w4 _ p c hbw4 HREP4.out HRF4.out).mono ?_
  rintro e w5 ⟨p', c', rfl, hrep5, hb5⟩
  have hbw5 := hbw4.trans (hb5.mono hbw4.size)
  have HR5 := hide hrep5
  clear hrep5
  go_wp2_with fail
  have hal := below_al (Below.refl w5.heap.size w5) (.cells #[.int .i64 (f.args : Nat), .slice p' out.length c'] 78)
  refine (HTX.out _ p' c' (hbw5.trans (hal.mono hbw5.size)) (HR5.out.below hal)).mono ?_
  rintro e w6 ⟨rfl, hb6⟩
  have hbw6 : Below w.heap.size w w6 := (hbw5.trans (hal.mono hbw5.size)).trans (hb6.mono (hbw5.trans (hal.mono hbw5.size)).size)
  go_wp2
  refine bodyPost_ret (v := .tuple #[.string (bs TO), .int .i64 (m : Nat), .int .i64 er]) (by simp [results, Tryz.results16]) rfl ?_
  exact ⟨rfl, hbw6⟩
 ·cases hor
end Go.Proofs.YtedkjanogjglkaaGreatDoor
namespace Go.Proofs.YtedkjanogjglkaaGreatDoor.D
open Go.RowKit
def ScanR (w : World) (sb : Nat) (s : List UInt8) (at_ : Nat) (bad : Bool) : Prop := w.heap[sb]? = some (.cells #[.string (bs s), .int .i64 (at_ : Nat), .bool bad] 127)
theorem quietN {w w' : World} {r : Option Nat} (h : w.grownBy w' r) (n : Nat) : w.grownBy (w'.drewN n) r := ⟨h.os, h.tape, h.output, h.size, h.block⟩
theorem cut_at (p s : List UInt8) (k : Nat) : (((bs s).extract k (k + p.length)).toList == (bs p).toList) = (Code.cut p (s.drop k)).isSome := by
 rw [ByteArray.toList_eq, ByteArray.toList_eq]
 show (bl ((bs s).extract k (k + p.length)) == bl (bs p)) = _
 rw [bl_extract, bl_bs, bl_bs, Nat.add_sub_cancel_left]
 cases h : Code.cut p (s.drop k) with
 | none => exact beq_eq_false_iff_ne.2 (Code.cut_none h)
 | some r => rw [Code.cut_some h]; simp
theorem is_bad (sb : Nat) (s p : List UInt8) (k : Nat) (w : World) (h : ScanR w sb s k true) :
  Calls Tryz.prog 104 #[.pointer (some ⟨sb, 0, none⟩), .string (bs p)] w fun e w' => e = .returned (.bool false) ∧ ScanR w' sb s k true ∧ w.grownBy w' (some sb) := by
 have c2 := blk_cell h 2 _ rfl
 go_enter Tryz.func104, Tryz.ntmps104
 go_wp2_with fail
 go_quiet (fail)
 go_wp2
 go_ret
 exact ⟨rfl, h, quietN (grown_refl w _) _⟩
set_option maxHeartbeats 1000000 in
theorem is_short (sb : Nat) (s p : List UInt8) (k : Nat) (w : World) (h : ScanR w sb s k false) (hk : k ≤ s.length) (hs : s.length ≤ 3000) (hp : p.length ≤ 3000) (hl : s.length < k + p.length) :
  Calls Tryz.prog 104 #[.pointer (some ⟨sb, 0, none⟩), .string (bs p)] w fun e w' => e = .returned (.bool false) ∧ ScanR w' sb s k false ∧ w.grownBy w' (some sb) := by
 have c0 := blk_cell h 0 _ rfl
 have c1 := blk_cell h 1 _ rfl
 have c2 := blk_cell h 2 _ rfl
 have e1 := bs_size s
 have e2 := bs_size p
 have hd : decide (((bs s).size : Int) < (k : Int) + ((bs p).size : Int)) = true := decide_eq_true (by omega)
 have hS : (bs s).size ≤ 3000 := by omega
 have hP : (bs p).size ≤ 3000 := by omega
 have hK : k ≤ 3000 := by omega
 have HH := hide h
 clear e1 e2 hl hs hp hk h
 generalize bs p = P at *
 generalize hSS : bs s = S at *
 clear hSS
 go_enter Tryz.func104, Tryz.ntmps104
 go_wp2_with fail
 go_quiet (fail)
 go_wp2
 go_ret
 exact ⟨rfl, HH.out, quietN (grown_refl w _) _⟩
set_option maxHeartbeats 1000000 in
theorem is_no (sb : Nat) (s p : List UInt8) (k : Nat) (w : World) (h : ScanR w sb s k false) (hs : s.length ≤ 3000) (hp : p.length ≤ 3000) (hl : k + p.length ≤ s.length) (hc : (Code.cut p (s.drop k)).isSome = false) :
  Calls Tryz.prog 104 #[.pointer (some ⟨sb, 0, none⟩), .string (bs p)] w fun e w' => e = .returned (.bool false) ∧ ScanR w' sb s k false ∧ w.grownBy w' (some sb) := by
 have c0 := blk_cell h 0 _ rfl
 have c1 := blk_cell h 1 _ rfl
 have c2 := blk_cell h 2 _ rfl
 have z1 := blk_froz h 1
 have e1 := bs_size s
 have e2 := bs_size p
 have hq := (cut_at p s k).trans hc
 rw [← e2] at hq
 have hd : decide (((bs s).size : Int) < (k : Int) + ((bs p).size : Int)) = false := decide_eq_false (by omega)
 have hd2 : ¬ ((bs s).size : Int) < (k : Int) + ((bs p).size : Int) := by omega
 have hle : k + (bs p).size ≤ (bs s).size := by omega
 have hS : (bs s).size ≤ 3000 := by omega
 have hP : (bs p).size ≤ 3000 := by omega
 have hK : k ≤ 3000 := by omega
 have HE2 := hide e2
 have HH := hide h
 clear e1 e2 hl hs hp h hc
 generalize bs p = P at *
 generalize hSS : bs s = S at *
 clear hSS
 go_enter Tryz.func104, Tryz.ntmps104
 go_wp2_with fail
 go_quiet (fail)
 go_wp2
 go_ret
 exact ⟨rfl, HH.out, quietN (grown_refl w _) _⟩
set_option maxHeartbeats 1000000 in
theorem is_yes (sb : Nat) (s p : List UInt8) (k : Nat) (w : World) (h : ScanR w sb s k false) (hs : s.length ≤ 3000) (hp : p.length ≤ 3000) (hl : k + p.length ≤ s.length) (hc : (Code.cut p (s.drop k)).isSome = true) :
  Calls Tryz.prog 104 #[.pointer (some ⟨sb, 0, none⟩), .string (bs p)] w fun e w' => e = .returned (.bool true) ∧ ScanR w' sb s (k + p.length) false ∧ w.grownBy w' (some sb) := by
 have c0 := blk_cell h 0 _ rfl
 have c1 := blk_cell h 1 _ rfl
 have c2 := blk_cell h 2 _ rfl
 have z1 := blk_froz h 1
 have e1 := bs_size s
 have e2 := bs_size p
 have hq := (cut_at p s k).trans hc
 rw [← e2] at hq
 have hd : decide (((bs s).size : Int) < (k : Int) + ((bs p).size : Int)) = false := decide_eq_false (by omega)
 have hd2 : ¬ ((bs s).size : Int) < (k : Int) + ((bs p).size : Int) := by omega
 have hle : k + (bs p).size ≤ (bs s).size := by omega
 have hS : (bs s).size ≤ 3000 := by omega
 have hP : (bs p).size ≤ 3000 := by omega
 have hK : k ≤ 3000 := by omega
 have HE2 := hide e2
 have HH := hide h
 clear e1 e2 hl hs hp h hc
 generalize bs p = P at *
 generalize hSS : bs s = S at *
 clear hSS
 go_enter Tryz.func104, Tryz.ntmps104
 go_wp2_with fail
 go_quiet (fail)
 go_wp2
 go_ret
 have e : (k : Int) + (P.size : Int) = ((k + p.length : Nat) : Int) := by rw [HE2.out]; omega
 rw [e]
 exact ⟨rfl, set_block (w := w.drewN _) HH.out, grown_trans (quietN (grown_refl w _) _) (grown_set _ _ _ _)⟩
theorem is_any (sb : Nat) (s p : List UInt8) (k : Nat) (bad : Bool) (w : World) (h : ScanR w sb s k bad) (hk : k ≤ s.length) (hs : s.length ≤ 3000) (hp : p.length ≤ 3000) :
  Calls Tryz.prog 104 #[.pointer (some ⟨sb, 0, none⟩), .string (bs p)] w fun e w' => w.grownBy w' (some sb) ∧
   ((∃ r, bad = false ∧ Code.cut p (s.drop k) = some r ∧ s.drop (k + p.length) = r ∧ k + p.length ≤ s.length ∧ e = .returned (.bool true) ∧ ScanR w' sb s (k + p.length) false) ∨
    ((bad = true ∨ Code.cut p (s.drop k) = none) ∧ e = .returned (.bool false) ∧ ScanR w' sb s k bad)) := by
 cases bad with
 | true =>
  refine (is_bad sb s p k w h).mono ?_
  rintro e w' ⟨rfl, h1, h2⟩
  exact ⟨h2, Or.inr ⟨Or.inl rfl, rfl, h1⟩⟩
 | false =>
  cases hc : Code.cut p (s.drop k) with
  | some r =>
   have he := Code.cut_some hc
   have hlen : s.length - k = p.length + r.length := by rw [← List.length_drop, he, List.length_append]
   refine (is_yes sb s p k w h hs hp (by omega) (by rw [hc]; rfl)).mono ?_
   rintro e w' ⟨rfl, h1, h2⟩
   refine ⟨h2, Or.inl ⟨r, rfl, rfl, ?_, by omega, rfl, h1⟩⟩
   rw [← List.drop_drop, he, List.drop_left]
  | none =>
   by_cases hl : k + p.length ≤ s.length
   ·refine (is_no sb s p k w h hs hp hl (by rw [hc]; rfl)).mono ?_
    rintro e w' ⟨rfl, h1, h2⟩
    exact ⟨h2, Or.inr ⟨Or.inr rfl, rfl, h1⟩⟩
   ·refine (is_short sb s p k w h hk hs hp (by omega)).mono ?_
    rintro e w' ⟨rfl, h1, h2⟩
    exact ⟨h2, Or.inr ⟨Or.inr rfl, rfl, h1⟩⟩
theorem must_any (sb : Nat) (s p : List UInt8) (k : Nat) (bad : Bool) (w : World) (h : ScanR w sb s k bad) (hk : k ≤ s.length) (hs : s.length ≤ 3000) (hp : p.length ≤ 3000) :
  Calls Tryz.prog 61 #[.pointer (some ⟨sb, 0, none⟩), .string (bs p)] w fun e w' => w.grownBy w' (some sb) ∧ e = .returned (.tuple #[]) ∧
   ((∃ r, bad = false ∧ Code.cut p (s.drop k) = some r ∧ s.drop (k + p.length) = r ∧ k + p.length ≤ s.length ∧ ScanR w' sb s (k + p.length) false) ∨
    ((bad = true ∨ Code.cut p (s.drop k) = none) ∧ ScanR w' sb s k true)) := by
 go_enter Tryz.func61, Tryz.ntmps61
 go_wp2_with fail
 refine (is_any sb s p k bad w h hk hs hp).mono ?_
 rintro e w1 ⟨hg, ⟨r, h1, h2, h3, h4, rfl, h5⟩ | ⟨h1, rfl, h5⟩⟩
 ·have H := hide (And.intro h1 (And.intro h2 h3))
  clear h1 h2 h3
  go_wp2
  go_end0
  exact ⟨hg, rfl, Or.inl ⟨r, H.out.1, H.out.2.1, H.out.2.2, h4, h5⟩⟩
 ·have H := hide h1
  have z2 := blk_froz h5 2
  have c2 := blk_cell h5 2 _ rfl
  clear h1
  go_wp2
  go_end0
  exact ⟨grown_trans hg (grown_set _ _ _ _), rfl, Or.inr ⟨H.out, set_block h5⟩⟩
def scanAt (w : World) (sb : Nat) : Nat := match w.cell? ⟨sb, 1, none⟩ with
 | some (.int _ n) => n.toNat
 | _ => 0
theorem scanAt_of {w : World} {sb : Nat} {s : List UInt8} {k : Nat} {bad : Bool} (h : ScanR w sb s k bad) : scanAt w sb = k := by
 have c : w.cell? ⟨sb, 1, none⟩ = some (.int .i64 (k : Nat)) := blk_cell h 1 _ rfl
 simp only [scanAt, c]
 omega
theorem scan_set1 {w : World} {sb : Nat} {s : List UInt8} {k : Nat} {bad : Bool} (h : ScanR w sb s k bad) (n : Nat) (m : Int) (hm : m = (n : Int)) : ScanR (w.setCell ⟨sb, 1, none⟩ (.int .i64 m)) sb s n bad := by
 subst hm
 unfold ScanR; rw [set_block h]; simp
set_option maxRecDepth 100000 in
set_option maxHeartbeats 4000000 in
theorem word_any (sb : Nat) (s : List UInt8) (k : Nat) (bad : Bool) (w : World) (h : ScanR w sb s k bad) (hk : k ≤ s.length) (hs : s.length ≤ 3000) :
  Calls Tryz.prog 105 #[.pointer (some ⟨sb, 0, none⟩)] w fun e w' => w.grownBy w' (some sb) ∧ e = .returned (.string (bs (Code.word (s.drop k)))) ∧ ScanR w' sb s (k + (Code.word (s.drop k)).length) bad := by
 have c1 := blk_cell h 1 _ rfl
 have e1 := bs_size s
 go_enter Tryz.func105, Tryz.ntmps105
 go_wp2_with fail
 go_loopw [8] (fun _ wr => ∃ j : Nat, k + j ≤ s.length ∧ ScanR wr sb s (k + j) bad ∧ w.grownBy wr (some sb) ∧ Hid (((s.drop k).take j).all (Code.isIn 97 122) = true)) (fun _ wr => s.length - scanAt wr sb)
 case atStart => exact ⟨0, by omega, h, grown_refl _ _, by simp [Hid]⟩
 case round =>
  obtain ⟨j, hj, hr, hg, hall⟩ := hrel
  have hm := hide (scanAt_of hr)
  have c0 := blk_cell hr 0 _ rfl
  have c1' := blk_cell hr 1 _ rfl
  have z1 := blk_froz hr 1
  have HR := hide hr
  have hend : Code.word (s.drop k) = (s.drop k).take j → Hid (∀ n m, w.grownBy ((wr.drewN n).drewN m) (some sb) ∧ ScanR ((wr.drewN n).drewN m) sb s (k + (Code.word (s.drop k)).length) bad) ∧ Hid ((bs s).extract k (k + j) = bs (Code.word (s.drop k))) := fun hw => by
   have hl : (Code.word (s.drop k)).length = j := by rw [hw, List.length_take, List.length_drop]; omega
   refine ⟨hide fun n m => ⟨quietN (quietN hg n) m, ?_⟩, hide ?_⟩
   ·rw [hl]; exact HR.out
   ·rw [bs_extract, bl_bs, hw, show k + j - k = j by omega]
  have HEND := hide hend
  clear hend
  by_cases hlt : k + j < s.length
  ·have hlt' : k + j < (bs s).size := by omega
   have hget : (bs s)[k + j]'hlt' = s[k + j] := bs_get s (k + j) hlt hlt'
   have hgd : (s.drop k)[j]? = some s[k + j] := by rw [List.getElem?_drop]; exact List.getElem?_eq_getElem hlt
   have hstop : Code.isIn 97 122 ((bs s)[k + j]'hlt') = false → Code.word (s.drop k) = (s.drop k).take j := fun hf =>
    (Code.takeWhile_take _ (s.drop k) j hall.out (by rw [List.length_drop]; omega) (fun c hc => by rw [hgd] at hc; rw [← Option.some.inj hc, ← hget]; exact hf)).1
   have hgo : Code.isIn 97 122 ((bs s)[k + j]'hlt') = true → Hid (((s.drop k).take (j + 1)).all (Code.isIn 97 122) = true) := fun hf => by
    refine hide ?_
    rw [List.take_add_one, hgd, List.all_append, hall.out]
    show (true && (Code.isIn 97 122 s[k + j] && true)) = true
    rw [← hget, hf]; rfl
   have HSTOP := hide hstop
   have HGO := hide hgo
   have hd : decide (((k + j : Nat) : Int) < ((bs s).size : Int)) = true := decide_eq_true (by omega)
   have hkk : ((k + j : Nat) : Int) < ((bs s).size : Int) := by omega
   have h3 : (bs s).size ≤ 3000 := by omega
   have hkle : k ≤ k + j := by omega
   have hkl2 : k + j ≤ (bs s).size := by omega
   have HLT := hide hlt
   clear hget hgd hstop hgo hall e1 hj hlt
   by_cases h1 : (97 : Int) ≤ (((bs s)[k + j]'hlt').toNat : Int)
   ·by_cases h2 : (((bs s)[k + j]'hlt').toNat : Int) ≤ (122 : Int)
    ·have HA := HGO.out (isIn_yes (lo := 97) (hi := 122) h1 h2)
     have hq1 : decide ((97 : Int) ≤ (((bs s)[k + j]'hlt').toNat : Int)) = true := decide_eq_true h1
     have hq2 : decide ((((bs s)[k + j]'hlt').toNat : Int) ≤ (122 : Int)) = true := decide_eq_true h2
     clear HGO HSTOP HEND
     generalize hS : bs s = S at *
     generalize hn : k + j = n at *
     go_wp2_with fail
     go_quiet (fail)
     go_wp2
     have hlt := HLT.out
     have hset := fun q => scan_set1 (w := wr.drewN q) HR.out (k + (j + 1)) ((n : Int) + 1) (by omega)
     exact ⟨⟨j + 1, by omega, hset _, grown_trans (quietN hg _) (grown_set _ _ _ _), HA⟩, by rw [hm.out, scanAt_of (hset _)]; omega⟩
    ·have hw := HSTOP.out (isIn_no (lo := 97) (hi := 122) (fun h => h2 h.2))
     obtain ⟨HE, HX⟩ := HEND.out hw
     have hq1 : decide ((97 : Int) ≤ (((bs s)[k + j]'hlt').toNat : Int)) = true := decide_eq_true h1
     have hq2 : decide ((((bs s)[k + j]'hlt').toNat : Int) ≤ (122 : Int)) = false := decide_eq_false h2
     clear HGO HSTOP HEND hw
     generalize hS : bs s = S at *
     generalize hn : k + j = n at *
     go_wp2_with fail
     go_quiet (fail)
     go_wp2_with fail
     go_quiet (fail)
     go_wp2
     go_ret
     exact ⟨(HE.out _ _).1, ret_str HX.out, (HE.out _ _).2⟩
   ·have hw := HSTOP.out (isIn_no (lo := 97) (hi := 122) (fun h => h1 h.1))
    obtain ⟨HE, HX⟩ := HEND.out hw
    have hq1 : decide ((97 : Int) ≤ (((bs s)[k + j]'hlt').toNat : Int)) = false := decide_eq_false h1
    clear HGO HSTOP HEND hw
    generalize hS : bs s = S at *
    generalize hn : k + j = n at *
    go_wp2_with fail
    go_quiet (fail)
    go_wp2_with fail
    go_quiet (fail)
    go_wp2
    go_ret
    exact ⟨(HE.out _ _).1, ret_str HX.out, (HE.out _ _).2⟩
  ·have hw : Code.word (s.drop k) = (s.drop k).take j := (Code.takeWhile_take _ (s.drop k) j hall.out (by rw [List.length_drop]; omega) (fun c hc => by rw [List.getElem?_eq_none (by rw [List.length_drop]; omega)] at hc; cases hc)).1
   obtain ⟨HE, HX⟩ := HEND.out hw
   have hje : k + j = (bs s).size := by omega
   have hd : decide (((bs s).size : Int) < ((bs s).size : Int)) = false := decide_eq_false (by omega)
   have h3 : (bs s).size ≤ 3000 := by omega
   have hkle : k ≤ (bs s).size := by omega
   rw [hje] at c1' HX
   clear HEND hw hall e1 hj hlt HR hr hm hje
   generalize hS : bs s = S at *
   go_wp2_with fail
   go_quiet (fail)
   go_wp2_with fail
   go_quiet (fail)
   go_wp2
   go_ret
   exact ⟨(HE.out _ _).1, ret_str HX.out, (HE.out _ _).2⟩
theorem word_at (s : List UInt8) (k : Nat) (hk : k ≤ s.length) : k + (Code.word (s.drop k)).length ≤ s.length ∧ s.drop (k + (Code.word (s.drop k)).length) = Code.behind (s.drop k) := by
 have e : Code.word (s.drop k) ++ Code.behind (s.drop k) = s.drop k := Code.run_rest 97 122 (s.drop k)
 have hl := congrArg List.length e
 simp only [List.length_append, List.length_drop] at hl
 refine ⟨by omega, ?_⟩
 rw [← List.drop_drop]
 generalize s.drop k = t at e ⊢
 have h2 : (Code.word t ++ Code.behind t).drop (Code.word t).length = Code.behind t := by simp
 rw [e] at h2
 exact h2
end Go.Proofs.YtedkjanogjglkaaGreatDoor.D
namespace Go.Proofs.YtedkjanogjglkaaGreatDoor.Code
open Go.Proofs.YtedkjanogjglkaaGreatDoor
def numC (c : UInt8) : Bool := isIn 48 57 c || c == 45
def numRun (s : List UInt8) : List UInt8 := s.takeWhile numC
theorem takeWhile_app {p : UInt8 → Bool} : ∀ (a r : List UInt8), (∀ c ∈ a, p c = true) → (∀ c, r.head? = some c → p c = false) → (a ++ r).takeWhile p = a
 | [], r, _, h => by
  cases r with
  | nil => rfl
  | cons c r => rw [List.nil_append, List.takeWhile_cons_of_neg (by rw [h c rfl]; simp)]
 | c :: a, r, h1, h2 => by
  rw [List.cons_append, List.takeWhile_cons_of_pos (h1 c (List.mem_cons_self ..)), takeWhile_app a r (fun c hc => h1 c (List.mem_cons_of_mem _ hc)) h2]
theorem digits_numC (n : Int) : ∀ c ∈ Ref.digits n, numC c = true := by
 intro c hc
 unfold Ref.digits at hc
 split at hc
 ·rcases List.mem_cons.1 hc with rfl | hc
  ·rfl
  ·simp [numC, dec_in _ c hc]
 ·simp [numC, dec_in _ c hc]
theorem number_stop {s t : List UInt8} {n : Nat} (h : number s = some (n, t)) : ∀ c, t.head? = some c → isIn 48 57 c = false := by
 unfold number at h
 split at h
 ·cases h
 ·simp only [Option.some.injEq, Prod.mk.injEq] at h
  obtain ⟨_, rfl⟩ := h
  intro c hc
  unfold rest at hc
  have h1 := List.head?_dropWhile_not (isIn 48 57) s
  rw [hc] at h1
  simpa using h1
theorem signedOf_rest {b : Bool} {p : Nat × List UInt8} {n : Int} {t : List UInt8} (h : signedOf b p = some (n, t)) : t = p.2 := by
 obtain ⟨m, r⟩ := p
 cases b
 ·by_cases hm : m ≤ 2147483647
  ·rw [signedOf_plus hm] at h
   simp only [Option.some.injEq, Prod.mk.injEq] at h
   exact h.2.symm
  ·rw [signedOf_plus_big (by omega)] at h; cases h
 ·by_cases h0 : m = 0
  ·rw [signedOf_zero h0] at h; cases h
  ·by_cases hm : m ≤ 2147483648
   ·rw [signedOf_minus (by omega) hm] at h
    simp only [Option.some.injEq, Prod.mk.injEq] at h
    exact h.2.symm
   ·rw [signedOf_minus_big (by omega)] at h; cases h
theorem signed_stop {s t : List UInt8} {n : Int} (h : signed s = some (n, t)) : ∀ c, t.head? = some c → isIn 48 57 c = false := by
 unfold signed at h
 split at h
 ·rename_i r hr
  cases hn : number r with
  | none => rw [hn] at h; cases h
  | some p =>
   rw [hn] at h
   rw [(signedOf_rest (show signedOf true p = some (n, t) from h))]
   exact number_stop (show number r = some (p.1, p.2) from hn)
 ·cases hn : number s with
  | none => rw [hn] at h; cases h
  | some p =>
   rw [hn] at h
   rw [(signedOf_rest (show signedOf false p = some (n, t) from h))]
   exact number_stop (show number s = some (p.1, p.2) from hn)
theorem numRun_drop (s : List UInt8) : numRun s ++ s.drop (numRun s).length = s ∧ ∀ c, (s.drop (numRun s).length).head? = some c → numC c = false := by
 have e : numRun s ++ s.dropWhile numC = s := List.takeWhile_append_dropWhile
 have e2 : s.drop (numRun s).length = s.dropWhile numC := by
  have h : (numRun s ++ s.dropWhile numC).drop (numRun s).length = s.dropWhile numC := by simp
  rw [e] at h; exact h
 rw [e2]
 refine ⟨e, fun c hc => ?_⟩
 have h1 := List.head?_dropWhile_not numC s
 rw [hc] at h1
 simpa using h1
theorem numC_no {c : UInt8} (h : numC c = false) : isIn 48 57 c = false ∧ c ≠ 45 := by
 simp only [numC, Bool.or_eq_false_iff, beq_eq_false_iff_ne] at h
 exact h
theorem num_yes {s : List UInt8} (h : (Ref.signed (numRun s)).2 = true) : signed s = some ((Ref.signed (numRun s)).1, s.drop (numRun s).length) ∧ (s.drop (numRun s).length).head? ≠ some 45 := by
 obtain ⟨c, h1, h2, h3, h4⟩ := D.Ref.signed_inv h
 obtain ⟨e, hst⟩ := numRun_drop s
 have hh : (s.drop (numRun s).length).head? ≠ some 45 := fun h => by
  have := hst 45 h
  exact absurd this (by decide)
 have hstop : Stop (s.drop (numRun s).length) := by
  cases hr : s.drop (numRun s).length with
  | nil => rfl
  | cons d r => exact stop_cons (numC_no (hst d (by rw [hr]; rfl))).1
 refine ⟨?_, hh⟩
 rw [h4]
 have hd : signed (Ref.digits c ++ s.drop (numRun s).length) = some (c, s.drop (numRun s).length) := signed_digits c _ h2 h3 hstop
 have h1' : Ref.digits c = numRun s := h1.symm
 rw [h1', e] at hd
 exact hd
theorem num_of {s r : List UInt8} {n : Int} (h : signed s = some (n, r)) (hr : r.head? ≠ some 45) : Ref.signed (numRun s) = (n, true) ∧ r = s.drop (numRun s).length ∧ numRun s ≠ [] := by
 obtain ⟨h1, h2, h3⟩ := signed_inv h
 have hst := signed_stop h
 have hrun : numRun s = Ref.digits n := by
  rw [h1]
  refine takeWhile_app _ _ (digits_numC n) (fun c hc => ?_)
  simp only [numC, Bool.or_eq_false_iff, beq_eq_false_iff_ne]
  exact ⟨hst c hc, fun e => hr (by rw [hc, e])⟩
 rw [hrun]
 refine ⟨D.Ref.signed_of h2 h3, ?_, ?_⟩
 ·conv => rhs; rw [h1]
  simp
 ·intro hd
  have := D.Ref.signed_of h2 h3
  rw [hd] at this
  cases this
theorem atomQ_num {s : List UInt8} (h : numRun s ≠ []) : atomQ s = if (Ref.signed (numRun s)).2 = true then some (.num (Ref.signed (numRun s)).1, s.drop (numRun s).length) else none := by
 have hhead : ∃ c r, s = c :: r ∧ numC c = true := by
  cases s with
  | nil => exact absurd rfl h
  | cons c r =>
   refine ⟨c, r, rfl, ?_⟩
   by_cases hc : numC c = true
   ·exact hc
   ·exact absurd (by simp only [numRun]; rw [List.takeWhile_cons_of_neg hc]) h
 obtain ⟨c, r0, rfl, hc⟩ := hhead
 have hc' : (48 ≤ c.toNat ∧ c.toNat ≤ 57) ∨ c = 45 := by
  simpa [numC, isIn] using hc
 have h35 : cut [35] (c :: r0) = none := by
  have : (35 : UInt8) ≠ c := by
   rintro rfl
   rcases hc' with h | h
   ·revert h; decide
   ·revert h; decide
  simp [cut, List.isPrefixOf, this]
 have hw : word (c :: r0) = [] := by
  unfold word run
  rw [List.takeWhile_cons_of_neg]
  rcases hc' with h | rfl
  ·simp [isIn]; omega
  ·decide
 unfold atomQ atomP
 rw [h35]
 simp only [hw, if_true]
 by_cases hok : (Ref.signed (numRun (c :: r0))).2 = true
 ·obtain ⟨h1, h2⟩ := num_yes hok
  rw [h1, if_pos hok]
  have hnd : doomed (RTree.num (Ref.signed (numRun (c :: r0))).1, (c :: r0).drop (numRun (c :: r0)).length) = false := by
   simp only [doomed]
   exact beq_eq_false_iff_ne.2 h2
  simp [hnd]
 ·rw [if_neg hok]
  cases hs : signed (c :: r0) with
  | none => rfl
  | some p =>
   have h45 : p.2.head? = some 45 := by
    apply Classical.byContradiction
    intro hn
    have := num_of (show signed (c :: r0) = some (p.1, p.2) from hs) hn
    rw [this.1] at hok
    exact hok rfl
   have hd : doomed (RTree.num p.1, p.2) = true := by
    simp only [doomed]
    exact beq_iff_eq.2 h45
   simp [hd]
theorem atomQ_hash {s r : List UInt8} (h : cut [35] s = some r) : atomQ s = (nameP r).map fun p => (.hash p.1, p.2) := by
 unfold atomQ atomP
 rw [h]
 simp only
 cases nameP r with
 | none => rfl
 | some p => simp [doomed]
theorem atomQ_name {s : List UInt8} (h35 : cut [35] s = none) (h : numRun s = []) : atomQ s = (nameP s).map fun p => (.name p.1, p.2) := by
 unfold atomQ atomP
 rw [h35]
 simp only
 by_cases hw : word s = []
 ·have hn : nameP s = none := by simp [nameP, hw]
  rw [if_pos hw, hn]
  cases hs : signed s with
  | none => rfl
  | some p =>
   exfalso
   obtain ⟨h1, h2, h3⟩ := signed_inv (show signed s = some (p.1, p.2) from hs)
   have h4 : Ref.digits p.1 ≠ [] := by
    intro hd
    have := D.Ref.signed_of h2 h3
    rw [hd] at this
    exact absurd (show (Ref.signed []).2 = true from congrArg Prod.snd this) (by decide)
   cases hd : Ref.digits p.1 with
   | nil => exact h4 hd
   | cons c r =>
    have hc : numC c = true := digits_numC p.1 c (by rw [hd]; simp)
    rw [h1, hd, List.cons_append, numRun, List.takeWhile_cons_of_pos hc] at h
    cases h
 ·rw [if_neg hw]
  cases nameP s with
  | none => rfl
  | some p => simp [doomed]
end Go.Proofs.YtedkjanogjglkaaGreatDoor.Code
namespace Go.Proofs.YtedkjanogjglkaaGreatDoor.D
open Go.RowKit
open Go.Proofs.YtedkjanogjglkaaGreatDoor.Code (RTree)
def kindOf : RTree → Nat
 | .name _ => 110
 | .hash _ => 35
 | .num _ => 100
 | .op _ _ => 111
 | .fold _ _ => 33
def wordOf : RTree → List UInt8
 | .name x => x
 | .hash x => x
 | .num _ => []
 | .op k _ => Code.nameOf k
 | .fold k _ => Code.nameOf k
def numOf : RTree → Int
 | .num c => c
 | _ => 0
mutual
def RepD (w : World) (I : Nat → Prop) : Value → RTree → Prop
 | v, .name x => ∃ b, v = .pointer (some ⟨b, 0, none⟩) ∧ I b ∧ w.heap[b]? = some (.cells #[.int .u8 110, .string (bs x), .int .i64 0, .slice none 0 0] 135)
 | v, .hash x => ∃ b, v = .pointer (some ⟨b, 0, none⟩) ∧ I b ∧ w.heap[b]? = some (.cells #[.int .u8 35, .string (bs x), .int .i64 0, .slice none 0 0] 135)
 | v, .num c => ∃ b, v = .pointer (some ⟨b, 0, none⟩) ∧ I b ∧ w.heap[b]? = some (.cells #[.int .u8 100, .string (bs []), .int .i64 c, .slice none 0 0] 135) ∧ -2147483648 ≤ c ∧ c ≤ 2147483647
 | v, .op k kids => ∃ b kv vs, v = .pointer (some ⟨b, 0, none⟩) ∧ I b ∧ w.heap[b]? = some (.cells #[.int .u8 111, .string (bs (Code.nameOf k)), .int .i64 0, kv] 135) ∧ k < 13 ∧ vs.length = Code.opOf k ∧ w.ownsRow 0 67 1 kv vs.length vs ∧ (∀ g, kv.ownBlock = some g → I g) ∧ RepDs w I vs kids
 | v, .fold k kids => ∃ b kv vs, v = .pointer (some ⟨b, 0, none⟩) ∧ I b ∧ w.heap[b]? = some (.cells #[.int .u8 33, .string (bs (Code.nameOf k)), .int .i64 0, kv] 135) ∧ k < 13 ∧ vs.length = Code.opOf k ∧ w.ownsRow 0 67 1 kv vs.length vs ∧ (∀ g, kv.ownBlock = some g → I g) ∧ RepDs w I vs kids
def RepDs (w : World) (I : Nat → Prop) : List Value → List RTree → Prop
 | [], [] => True
 | v :: vs, t :: ts => RepD w I v t ∧ RepDs w I vs ts
 | _, _ => False
end
def KeepsD (w w' : World) (I : Nat → Prop) : Prop := ∀ (b : Nat) (C : Array Value) (T : TypeId) (z : Nat × Nat), w.heap[b]? = some (.cells C T z) → T = 135 ∨ T = 67 → I b → w'.heap[b]? = some (.cells C T z)
theorem KeepsD.own {w w' : World} {I : Nat → Prop} (h : KeepsD w w' I) {n : Nat} {v : Value} {xs : List Value} (ho : w.ownsRow 0 67 1 v n xs) (hI : ∀ g, v.ownBlock = some g → I g) : w'.ownsRow 0 67 1 v n xs := by
 refine ⟨ho.1, ?_⟩
 rcases ho.2 with h0 | ⟨g, cap, cur, hv, hbg, hgg, r⟩
 ·exact Or.inl h0
 ·exact Or.inr ⟨g, cap, cur, hv, hbg, h g _ _ _ hgg (Or.inr rfl) (hI g (by rw [hv]; rfl)), r⟩
mutual
theorem RepD.kept {w w' : World} {I I' : Nat → Prop} (hk : KeepsD w w' I) (hb : ∀ b, I b → I' b) : ∀ (t : RTree) (v : Value), RepD w I v t → RepD w' I' v t
 | .name x, v, h => by
  obtain ⟨b, h1, h2, h3⟩ := h
  exact ⟨b, h1, hb _ h2, hk _ _ _ _ h3 (Or.inl rfl) h2⟩
 | .hash x, v, h => by
  obtain ⟨b, h1, h2, h3⟩ := h
  exact ⟨b, h1, hb _ h2, hk _ _ _ _ h3 (Or.inl rfl) h2⟩
 | .num c, v, h => by
  obtain ⟨b, h1, h2, h3, h4⟩ := h
  exact ⟨b, h1, hb _ h2, hk _ _ _ _ h3 (Or.inl rfl) h2, h4⟩
 | .op k kids, v, h => by
  obtain ⟨b, kv, vs, h1, h2, h3, h4, h5, h6, h8, h7⟩ := h
  exact ⟨b, kv, vs, h1, hb _ h2, hk _ _ _ _ h3 (Or.inl rfl) h2, h4, h5, hk.own h6 h8, fun g hg => hb _ (h8 g hg), RepDs.kept hk hb kids vs h7⟩
 | .fold k kids, v, h => by
  obtain ⟨b, kv, vs, h1, h2, h3, h4, h5, h6, h8, h7⟩ := h
  exact ⟨b, kv, vs, h1, hb _ h2, hk _ _ _ _ h3 (Or.inl rfl) h2, h4, h5, hk.own h6 h8, fun g hg => hb _ (h8 g hg), RepDs.kept hk hb kids vs h7⟩
theorem RepDs.kept {w w' : World} {I I' : Nat → Prop} (hk : KeepsD w w' I) (hb : ∀ b, I b → I' b) : ∀ (ts : List RTree) (vs : List Value), RepDs w I vs ts → RepDs w' I' vs ts
 | [], [], _ => trivial
 | t :: ts, v :: vs, h => ⟨RepD.kept hk hb t v h.1, RepDs.kept hk hb ts vs h.2⟩
 | [], _ :: _, h => h.elim
 | _ :: _, [], h => h.elim
end
theorem RepDs.length {w : World} {I : Nat → Prop} : ∀ {vs : List Value} {ts : List RTree}, RepDs w I vs ts → vs.length = ts.length
 | [], [], _ => rfl
 | _ :: _, _ :: _, h => by simp [RepDs.length h.2]
 | [], _ :: _, h => h.elim
 | _ :: _, [], h => h.elim
theorem RepDs.snoc {w : World} {I : Nat → Prop} : ∀ {vs : List Value} {ts : List RTree} {v : Value} {t : RTree}, RepDs w I vs ts → RepD w I v t → RepDs w I (vs ++ [v]) (ts ++ [t])
 | [], [], _, _, _, h => ⟨h, trivial⟩
 | _ :: _, _ :: _, _, _, h, k => ⟨h.1, RepDs.snoc h.2 k⟩
 | [], _ :: _, _, _, h, _ => h.elim
 | _ :: _, [], _, _, h, _ => h.elim
theorem RepDs.get {w : World} {I : Nat → Prop} : ∀ {vs : List Value} {ts : List RTree}, RepDs w I vs ts → ∀ k (h : k < ts.length) (h' : k < vs.length), RepD w I vs[k] ts[k]
 | v :: vs, t :: ts, h, 0, _, _ => h.1
 | v :: vs, t :: ts, h, k + 1, h1, h2 => RepDs.get h.2 k (by simpa using h1) (by simpa using h2)
 | [], [], _, k, h, _ => by simp at h
 | [], _ :: _, h, _, _, _ => h.elim
 | _ :: _, [], h, _, _, _ => h.elim
theorem RepD.ptr {w : World} {I : Nat → Prop} {v : Value} {t : RTree} (h : RepD w I v t) : ∃ b, v = .pointer (some ⟨b, 0, none⟩) ∧ I b ∧ b < w.heap.size := by
 cases t with
 | name x => obtain ⟨b, h1, h2, h3⟩ := h; exact ⟨b, h1, h2, lt_of_block h3⟩
 | hash x => obtain ⟨b, h1, h2, h3⟩ := h; exact ⟨b, h1, h2, lt_of_block h3⟩
 | num c => obtain ⟨b, h1, h2, h3, _⟩ := h; exact ⟨b, h1, h2, lt_of_block h3⟩
 | op k kids => obtain ⟨b, kv, vs, h1, h2, h3, _⟩ := h; exact ⟨b, h1, h2, lt_of_block h3⟩
 | fold k kids => obtain ⟨b, kv, vs, h1, h2, h3, _⟩ := h; exact ⟨b, h1, h2, lt_of_block h3⟩
theorem keepsD_below {w w' : World} {I : Nat → Prop} (hb : Below w.heap.size w w') : KeepsD w w' I := fun b _ _ _ hc _ _ => (hb.block b (lt_of_block hc)).trans hc
theorem keepsD_refl (w : World) (I : Nat → Prop) : KeepsD w w I := fun _ _ _ _ hc _ _ => hc
theorem keepsD_grown {w w' : World} {I : Nat → Prop} {sb : Nat} {s : List UInt8} {k : Nat} {bad : Bool} (hs : ScanR w sb s k bad) (hg : w.grownBy w' (some sb)) : KeepsD w w' I := fun b C T z hc hT _ => by
 refine kept_block hc hg ?_
 rintro rfl
 unfold ScanR at hs
 rw [hs] at hc
 simp only [Option.some.injEq, Obj.cells.injEq] at hc
 rcases hT with rfl | rfl
 ·exact absurd hc.2.1 (by decide)
 ·exact absurd hc.2.1 (by decide)
def Fresh (w w' : World) (b : Nat) : Prop := w.heap.size ≤ b ∧ b < w'.heap.size
theorem opNamed_of {k : Nat} (h : k < 13) : Code.opNamed (Code.nameOf k) = some k := by
 match k, h with
 | 0, _ | 1, _ | 2, _ | 3, _ | 4, _ | 5, _ | 6, _ | 7, _ | 8, _ | 9, _ | 10, _ | 11, _ | 12, _ => rfl
theorem nameOf_opNamed {s : List UInt8} {k : Nat} (h : Code.opNamed s = some k) : s = Code.nameOf k ∧ k < 13 := by
 obtain ⟨h1, h2⟩ := Code.opNamed_inv h
 exact ⟨h2.symm, h1⟩
theorem arity_named (s : List UInt8) : (∃ k, Code.opNamed s = some k ∧ k < 13 ∧ s = Code.nameOf k ∧ Ref.arity s = (Code.opOf k : Nat) ∧ 1 ≤ Code.opOf k ∧ Code.opOf k ≤ 2) ∨ (Code.opNamed s = none ∧ Ref.arity s = 0) := by
 cases h : Code.opNamed s with
 | some k =>
  obtain ⟨h1, h2⟩ := nameOf_opNamed h
  have h3 := D.Ref.arity_name k h2
  have h4 := Code.opOf_range k h2
  refine Or.inl ⟨k, rfl, h2, h1, ?_, h4.1, h4.2⟩
  rw [h1]; exact h3.1
 | none =>
  refine Or.inr ⟨rfl, ?_⟩
  apply Classical.byContradiction
  intro hne
  have hr := Ref.arity_range s
  obtain ⟨k, hk, rfl⟩ := D.Ref.arity_inv (op := s) (by omega)
  rw [opNamed_of hk] at h
  cases h
set_option maxRecDepth 100000 in
set_option maxHeartbeats 2000000 in
theorem name_any (sb : Nat) (s : List UInt8) (k : Nat) (bad : Bool) (w : World) (h : ScanR w sb s k bad) (hk : k ≤ s.length) (hs : s.length ≤ 3000) :
  Calls Tryz.prog 107 #[.pointer (some ⟨sb, 0, none⟩)] w fun e w' => w.grownBy w' (some sb) ∧ e = .returned (.string (bs (Code.word (s.drop k)))) ∧ ScanR w' sb s (k + (Code.word (s.drop k)).length) (bad || (Code.nameP (s.drop k)).isNone) := by
 have HW := hide (word_any sb s k bad w h hk hs)
 have HNP : Hid (Code.nameP (s.drop k) = if Code.word (s.drop k) = [] ∨ 6 < (Code.word (s.drop k)).length ∨ (Code.opNamed (Code.word (s.drop k))).isSome = true then none else some (Code.word (s.drop k), Code.behind (s.drop k))) := rfl
 have hlen := (word_at s k hk).1
 have har := arity_named (Code.word (s.drop k))
 have e1 := bs_size (Code.word (s.drop k))
 generalize (Code.nameP (s.drop k)) = np at *
 generalize Code.word (s.drop k) = ww at *
 have HAR := hide (arity_bs ww)
 generalize Ref.arity ww = ar at *
 by_cases h0 : ww = []
 ·have HB : Hid ((bad || np.isNone) = true) := by rw [HNP.out, if_pos (Or.inl h0)]; simp [Hid]
  have hl0 : (ww.length : Int) < 1 := by rw [h0]; decide
  clear HNP h0 har
  go_enter Tryz.func107, Tryz.ntmps107
  go_wp2_with fail
  refine (HW.out).mono ?_
  rintro e w1 ⟨hg, rfl, hr⟩
  have c2 := blk_cell hr 2 _ rfl
  have z2 := blk_froz hr 2
  go_wp2
  go_ret
  exact ⟨grown_trans hg (grown_set _ _ _ _), rfl, by rw [HB.out]; exact set_block hr⟩
 ·have hl0 : ¬ (ww.length : Int) < 1 := by have := List.length_pos_iff.2 h0; omega
  by_cases h6 : 6 < ww.length
  ·have HB : Hid ((bad || np.isNone) = true) := by rw [HNP.out, if_pos (Or.inr (Or.inl h6))]; simp [Hid]
   have hl6 : (6 : Int) < (ww.length : Int) := by omega
   clear HNP h0 har
   go_enter Tryz.func107, Tryz.ntmps107
   go_wp2_with fail
   refine (HW.out).mono ?_
   rintro e w1 ⟨hg, rfl, hr⟩
   have c2 := blk_cell hr 2 _ rfl
   have z2 := blk_froz hr 2
   go_wp2
   go_ret
   exact ⟨grown_trans hg (grown_set _ _ _ _), rfl, by rw [HB.out]; exact set_block hr⟩
  ·have hl6 : ¬ (6 : Int) < (ww.length : Int) := by omega
   rcases har with ⟨q, hq, -, -, ha, ha1, -⟩ | ⟨hq, ha⟩
   ·have HB : Hid ((bad || np.isNone) = true) := by rw [HNP.out, if_pos (Or.inr (Or.inr (by rw [hq]; rfl)))]; simp [Hid]
    have hpos : (0 : Int) < ar := by omega
    clear HNP h0 hq ha
    go_enter Tryz.func107, Tryz.ntmps107
    go_wp2_with fail
    refine (HW.out).mono ?_
    rintro e w1 ⟨hg, rfl, hr⟩
    have c2 := blk_cell hr 2 _ rfl
    have z2 := blk_froz hr 2
    go_wp2_with fail
    refine (HAR.out w1).mono ?_
    rintro e w1 ⟨rfl, rfl⟩
    go_wp2
    go_ret
    exact ⟨grown_trans hg (grown_set _ _ _ _), rfl, by rw [HB.out]; exact set_block hr⟩
   ·have HB : Hid ((bad || np.isNone) = bad) := by
     rw [HNP.out, if_neg (by rw [hq]; simp [h0, h6])]; simp [Hid]
    clear HNP h0 hq
    go_enter Tryz.func107, Tryz.ntmps107
    go_wp2_with fail
    refine (HW.out).mono ?_
    rintro e w1 ⟨hg, rfl, hr⟩
    go_wp2_with fail
    rw [ha] at HAR
    refine (HAR.out w1).mono ?_
    rintro e w1 ⟨rfl, rfl⟩
    go_wp2
    go_ret
    exact ⟨hg, rfl, by rw [HB.out]; exact hr⟩
def gate (bad : Bool) (o : Option (RTree × List UInt8)) : Option (RTree × List UInt8) := match bad with
 | true => none
 | false => o
def TPost (o : Option (RTree × List UInt8)) (s : List UInt8) (k0 sb : Nat) (w : World) (e : Ending) (w' : World) : Prop :=
 ∃ (b k : Nat) (bad : Bool), e = .returned (.pointer (some ⟨b, 0, none⟩)) ∧ k0 ≤ k ∧ k ≤ s.length ∧ ScanR w' sb s k bad ∧ w.grownBy w' (some sb) ∧
  Hid ((bad = false ∧ ∃ t, o = some (t, s.drop k) ∧ RepD w' (Fresh w w') (.pointer (some ⟨b, 0, none⟩)) t) ∨ (bad = true ∧ o = none))
def TreeC (e : Nat) : Prop := ∀ (result : Bool) (sb : Nat) (s : List UInt8) (k : Nat) (bad : Bool) (w : World), ScanR w sb s k bad → k ≤ s.length → s.length - k ≤ e → s.length ≤ 3000 →
 Calls Tryz.prog 63 #[.pointer (some ⟨sb, 0, none⟩), .bool result] w fun en w' => TPost (gate bad (Code.treeQ result e (s.drop k))) s k sb w en w'
def InnerC (e : Nat) : Prop := ∀ (kd : Nat) (mk : Nat → List RTree → RTree), (kd = 111 ∧ mk = .op) ∨ (kd = 33 ∧ mk = .fold) → ∀ (result : Bool) (sb : Nat) (s : List UInt8) (k : Nat) (bad : Bool) (w : World), ScanR w sb s k bad → k ≤ s.length → s.length - k ≤ e → s.length ≤ 3000 →
 Calls Tryz.prog 62 #[.pointer (some ⟨sb, 0, none⟩), .int .u8 (kd : Nat), .bool result] w fun en w' => TPost (gate bad (Code.innerP (Code.treeQ result e) mk (s.drop k))) s k sb w en w'
theorem name_gate {s : List UInt8} {k : Nat} {bad : Bool} (h35 : bad = true ∨ Code.cut [35] (s.drop k) = none) (hn : Code.numRun (s.drop k) = []) (hk : k ≤ s.length) {w w2 : World} {b sb : Nat} (hx : w2.heap[b]? = some (.cells #[.int .u8 110, .string (bs (Code.word (s.drop k))), .int .i64 0, .slice none 0 0] 135)) (hb : w.heap.size ≤ b) (hg : w.grownBy w2 (some sb)) (hr : ScanR w2 sb s (k + (Code.word (s.drop k)).length) (bad || (Code.nameP (s.drop k)).isNone)) :
  TPost (gate bad (Code.atomQ (s.drop k))) s k sb w (.returned (.pointer (some ⟨b, 0, none⟩))) w2 := by
 obtain ⟨h1, h2⟩ := word_at s k hk
 refine ⟨b, _, _, rfl, by omega, h1, hr, hg, ?_⟩
 cases bad with
 | true => exact Or.inr ⟨rfl, rfl⟩
 | false =>
  have h35' : Code.cut [35] (s.drop k) = none := h35.resolve_left (by simp)
  have e : gate false (Code.atomQ (s.drop k)) = (Code.nameP (s.drop k)).map fun p => ((.name p.1 : RTree), p.2) := Code.atomQ_name h35' hn
  cases hnp : Code.nameP (s.drop k) with
  | none => exact Or.inr ⟨rfl, by rw [e, hnp]; rfl⟩
  | some p =>
   have hp : p = (Code.word (s.drop k), Code.behind (s.drop k)) := by
    unfold Code.nameP at hnp
    split at hnp
    ·cases hnp
    ·exact (Option.some.inj hnp).symm
   refine Or.inl ⟨rfl, .name (Code.word (s.drop k)), ?_, ⟨b, rfl, ⟨hb, lt_of_block hx⟩, hx⟩⟩
   rw [e, hnp, hp, h2]; rfl
theorem first_no {s : List UInt8} {k : Nat} (hn : Code.numRun (s.drop k) = []) (h : k < s.length) (hl : k < (bs s).size) : ¬ ((48 : Int) ≤ (((bs s)[k]'hl).toNat : Int) ∧ (((bs s)[k]'hl).toNat : Int) ≤ (57 : Int)) ∧ ¬ (((bs s)[k]'hl).toNat : Int) = 45 := by
 have hd : s.drop k = s[k] :: s.drop (k + 1) := List.drop_eq_getElem_cons h
 rw [hd] at hn
 rw [bs_get s k h]
 have hc : Code.numC s[k] = false := by
  cases hc : Code.numC s[k] with
  | false => rfl
  | true => unfold Code.numRun at hn; rw [List.takeWhile_cons_of_pos hc] at hn; cases hn
 obtain ⟨h1, h2⟩ := Code.numC_no hc
 refine ⟨fun h => ?_, fun h => h2 (UInt8.toNat.inj (by show s[k].toNat = 45; omega))⟩
 rw [isIn_yes (lo := 48) (hi := 57) h.1 h.2] at h1
 cases h1
set_option maxRecDepth 100000 in
set_option maxHeartbeats 8000000 in
theorem tree_nameF (sb : Nat) (s : List UInt8) (k : Nat) (bad : Bool) (w : World) (hsc : ScanR w sb s k bad) (hk : k ≤ s.length) (hs : s.length ≤ 3000) (h40 : bad = true ∨ Code.cut [40] (s.drop k) = none) (h35 : bad = true ∨ Code.cut [35] (s.drop k) = none) (hnum : Code.numRun (s.drop k) = []) :
  Calls Tryz.prog 63 #[.pointer (some ⟨sb, 0, none⟩), .bool false] w fun en w' => TPost (gate bad (Code.atomQ (s.drop k))) s k sb w en w' := by
 have e1 := bs_size s
 have hno : ∀ (p : List UInt8), p.length ≤ 3000 → (bad = true ∨ Code.cut p (s.drop k) = none) → ∀ (w1 : World), ScanR w1 sb s k bad → Calls Tryz.prog 104 #[.pointer (some ⟨sb, 0, none⟩), .string (bs p)] w1 fun e w' => w1.grownBy w' (some sb) ∧ e = .returned (.bool false) ∧ ScanR w' sb s k bad := fun p hp hc w1 hr1 => by
  refine (is_any sb s p k bad w1 hr1 hk hs hp).mono ?_
  rintro e w' ⟨hg, ⟨r, h1, h2, _⟩ | ⟨_, h2, h3⟩⟩
  ·rcases hc with h | h
   ·rw [h] at h1; cases h1
   ·rw [h2] at h; cases h
  ·exact ⟨hg, h2, h3⟩
 have HIS40 := hide (hno [40] (by simp) h40)
 have HIS35 := hide (hno [35] (by simp) h35)
 have hnm : ∀ (w1 : World), w.grownBy w1 (some sb) → ScanR w1 sb s k bad → Calls Tryz.prog 107 #[.pointer (some ⟨sb, 0, none⟩)] w1 fun e w' => w.grownBy w' (some sb) ∧ e = .returned (.string (bs (Code.word (s.drop k)))) ∧ ScanR w' sb s (k + (Code.word (s.drop k)).length) (bad || (Code.nameP (s.drop k)).isNone) := fun w1 hg hr => by
  refine (name_any sb s k bad w1 hr hk hs).mono ?_
  rintro e w' ⟨h1, h2, h3⟩
  exact ⟨grown_trans hg h1, h2, h3⟩
 have HNM := hide hnm
 have HFIN : Hid (∀ w4 : World, w.grownBy w4 (some sb) → ScanR w4 sb s (k + (Code.word (s.drop k)).length) (bad || (Code.nameP (s.drop k)).isNone) → TPost (gate bad (Code.atomQ (s.drop k))) s k sb w (.returned (.pointer (some ⟨w4.heap.size, 0, none⟩))) (w4.alloc (.cells #[.int .u8 110, .string (bs (Code.word (s.drop k))), .int .i64 0, .slice none 0 0] 135))) := hide fun w4 hg4 hr4 =>
  name_gate h35 hnum hk (heap_alloc_new w4 _) hg4.size (grown_trans hg4 (grown_alloc _ _ _)) (stay_alloc hr4)
 clear hno hnm h40 h35
 go_enter Tryz.func63, Tryz.ntmps63
 go_wp2_with fail
 refine (HIS40.out w hsc).mono ?_
 rintro en w1 ⟨hg1, rfl, hr1⟩
 go_wp2_with fail
 refine (HIS35.out w1 hr1).mono ?_
 rintro en w3 ⟨hg3, rfl, hr3⟩
 have hgw3 : w.grownBy w3 (some sb) := grown_trans hg1 hg3
 have c0 := blk_cell hr3 0 _ rfl
 have c1 := blk_cell hr3 1 _ rfl
 go_wp2_with fail
 refine wp_loop_rounds 1 ?_
 rw [rounds_succ]
 by_cases hlt : k < s.length
 ·have hlt' : k < (bs s).size := by omega
  obtain ⟨hdig, h45⟩ := first_no hnum hlt hlt'
  have hd : decide (((k : Nat) : Int) < ((bs s).size : Int)) = true := decide_eq_true (by omega)
  have hkk : ((k : Nat) : Int) < ((bs s).size : Int) := by omega
  have h3 : (bs s).size ≤ 3000 := by omega
  have hq3 : ((((bs s)[k]'hlt').toNat : Int) == 45) = false := beq_eq_false_iff_ne.2 h45
  have hcl : (decide ((48 : Int) ≤ (((bs s)[k]'hlt').toNat : Int)) = false) ∨ (decide ((48 : Int) ≤ (((bs s)[k]'hlt').toNat : Int)) = true ∧ decide ((((bs s)[k]'hlt').toNat : Int) ≤ (57 : Int)) = false) := by
   by_cases h1 : (48 : Int) ≤ (((bs s)[k]'hlt').toNat : Int)
   ·exact Or.inr ⟨decide_eq_true h1, decide_eq_false (fun h2 => hdig ⟨h1, h2⟩)⟩
   ·exact Or.inl (decide_eq_false h1)
  clear hdig h45 e1 hlt
  generalize hS : bs s = S at *
  rcases hcl with hq1 | ⟨hq1, hq2⟩
  all_goals
   go_wp2_with fail
   go_quiet (fail)
   go_wp2_with fail
   refine (HNM.out _ (quietN hgw3 _) (show ScanR (w3.drewN _) sb s k bad from hr3)).mono ?_
   rintro en w4 ⟨hgw4, rfl, hr4⟩
   have hz4 := hgw4.size
   go_wp2
   go_ret
   exact HFIN.out w4 hgw4 hr4
 ·have hke : k = (bs s).size := by omega
  have hd : decide (((bs s).size : Int) < ((bs s).size : Int)) = false := decide_eq_false (by omega)
  have h3 : (bs s).size ≤ 3000 := by omega
  have c1' : w3.cell? ⟨sb, 1, none⟩ = some (.int .i64 ((bs s).size : Nat)) := by rw [← hke]; exact c1
  have HKE := hide hke
  have hngt : ¬ ((k : Nat) : Int) < ((bs s).size : Int) := by omega
  have hngt' : decide (((k : Nat) : Int) < ((bs s).size : Int)) = false := decide_eq_false hngt
  clear e1 hlt c1 hke
  generalize hS : bs s = S at *
  go_wp2_with fail
  go_quiet (fail)
  go_wp2_with fail
  refine (HNM.out _ (quietN hgw3 _) (show ScanR (w3.drewN _) sb s k bad from hr3)).mono ?_
  rintro en w4 ⟨hgw4, rfl, hr4⟩
  have hz4 := hgw4.size
  go_wp2
  go_ret
  exact HFIN.out w4 hgw4 hr4
set_option maxRecDepth 100000 in
set_option maxHeartbeats 8000000 in
theorem tree_nameT (sb : Nat) (s : List UInt8) (k : Nat) (bad : Bool) (w : World) (hsc : ScanR w sb s k bad) (hk : k ≤ s.length) (hs : s.length ≤ 3000) (h40 : bad = true ∨ Code.cut [40] (s.drop k) = none) (h33 : bad = true ∨ Code.cut [33, 40] (s.drop k) = none) (h35 : bad = true ∨ Code.cut [35] (s.drop k) = none) (hnum : Code.numRun (s.drop k) = []) :
  Calls Tryz.prog 63 #[.pointer (some ⟨sb, 0, none⟩), .bool true] w fun en w' => TPost (gate bad (Code.atomQ (s.drop k))) s k sb w en w' := by
 have e1 := bs_size s
 have hno : ∀ (p : List UInt8), p.length ≤ 3000 → (bad = true ∨ Code.cut p (s.drop k) = none) → ∀ (w1 : World), ScanR w1 sb s k bad → Calls Tryz.prog 104 #[.pointer (some ⟨sb, 0, none⟩), .string (bs p)] w1 fun e w' => w1.grownBy w' (some sb) ∧ e = .returned (.bool false) ∧ ScanR w' sb s k bad := fun p hp hc w1 hr1 => by
  refine (is_any sb s p k bad w1 hr1 hk hs hp).mono ?_
  rintro e w' ⟨hg, ⟨r, h1, h2, _⟩ | ⟨_, h2, h3⟩⟩
  ·rcases hc with h | h
   ·rw [h] at h1; cases h1
   ·rw [h2] at h; cases h
  ·exact ⟨hg, h2, h3⟩
 have HIS40 := hide (hno [40] (by simp) h40)
 have HIS33 := hide (hno [33, 40] (by simp) h33)
 have HIS35 := hide (hno [35] (by simp) h35)
 have hnm : ∀ (w1 : World), w.grownBy w1 (some sb) → ScanR w1 sb s k bad → Calls Tryz.prog 107 #[.pointer (some ⟨sb, 0, none⟩)] w1 fun e w' => w.grownBy w' (some sb) ∧ e = .returned (.string (bs (Code.word (s.drop k)))) ∧ ScanR w' sb s (k + (Code.word (s.drop k)).length) (bad || (Code.nameP (s.drop k)).isNone) := fun w1 hg hr => by
  refine (name_any sb s k bad w1 hr hk hs).mono ?_
  rintro e w' ⟨h1, h2, h3⟩
  exact ⟨grown_trans hg h1, h2, h3⟩
 have HNM := hide hnm
 have HFIN : Hid (∀ w4 : World, w.grownBy w4 (some sb) → ScanR w4 sb s (k + (Code.word (s.drop k)).length) (bad || (Code.nameP (s.drop k)).isNone) → TPost (gate bad (Code.atomQ (s.drop k))) s k sb w (.returned (.pointer (some ⟨w4.heap.size, 0, none⟩))) (w4.alloc (.cells #[.int .u8 110, .string (bs (Code.word (s.drop k))), .int .i64 0, .slice none 0 0] 135))) := hide fun w4 hg4 hr4 =>
  name_gate h35 hnum hk (heap_alloc_new w4 _) hg4.size (grown_trans hg4 (grown_alloc _ _ _)) (stay_alloc hr4)
 clear hno hnm h40 h35 h33
 go_enter Tryz.func63, Tryz.ntmps63
 go_wp2_with fail
 refine (HIS40.out w hsc).mono ?_
 rintro en w1 ⟨hg1, rfl, hr1⟩
 go_wp2_with fail
 refine (HIS33.out w1 hr1).mono ?_
 rintro en w2 ⟨hg2, rfl, hr2⟩
 go_wp2_with fail
 refine (HIS35.out w2 hr2).mono ?_
 rintro en w3 ⟨hg3, rfl, hr3⟩
 have hgw3 : w.grownBy w3 (some sb) := grown_trans (grown_trans hg1 hg2) hg3
 have c0 := blk_cell hr3 0 _ rfl
 have c1 := blk_cell hr3 1 _ rfl
 go_wp2_with fail
 refine wp_loop_rounds 1 ?_
 rw [rounds_succ]
 by_cases hlt : k < s.length
 ·have hlt' : k < (bs s).size := by omega
  obtain ⟨hdig, h45⟩ := first_no hnum hlt hlt'
  have hd : decide (((k : Nat) : Int) < ((bs s).size : Int)) = true := decide_eq_true (by omega)
  have hkk : ((k : Nat) : Int) < ((bs s).size : Int) := by omega
  have h3 : (bs s).size ≤ 3000 := by omega
  have hq3 : ((((bs s)[k]'hlt').toNat : Int) == 45) = false := beq_eq_false_iff_ne.2 h45
  have hcl : (decide ((48 : Int) ≤ (((bs s)[k]'hlt').toNat : Int)) = false) ∨ (decide ((48 : Int) ≤ (((bs s)[k]'hlt').toNat : Int)) = true ∧ decide ((((bs s)[k]'hlt').toNat : Int) ≤ (57 : Int)) = false) := by
   by_cases h1 : (48 : Int) ≤ (((bs s)[k]'hlt').toNat : Int)
   ·exact Or.inr ⟨decide_eq_true h1, decide_eq_false (fun h2 => hdig ⟨h1, h2⟩)⟩
   ·exact Or.inl (decide_eq_false h1)
  clear hdig h45 e1 hlt
  generalize hS : bs s = S at *
  rcases hcl with hq1 | ⟨hq1, hq2⟩
  all_goals
   go_wp2_with fail
   go_quiet (fail)
   go_wp2_with fail
   refine (HNM.out _ (quietN hgw3 _) (show ScanR (w3.drewN _) sb s k bad from hr3)).mono ?_
   rintro en w4 ⟨hgw4, rfl, hr4⟩
   have hz4 := hgw4.size
   go_wp2
   go_ret
   exact HFIN.out w4 hgw4 hr4
 ·have hke : k = (bs s).size := by omega
  have hd : decide (((bs s).size : Int) < ((bs s).size : Int)) = false := decide_eq_false (by omega)
  have h3 : (bs s).size ≤ 3000 := by omega
  have c1' : w3.cell? ⟨sb, 1, none⟩ = some (.int .i64 ((bs s).size : Nat)) := by rw [← hke]; exact c1
  have HKE := hide hke
  have hngt : ¬ ((k : Nat) : Int) < ((bs s).size : Int) := by omega
  have hngt' : decide (((k : Nat) : Int) < ((bs s).size : Int)) = false := decide_eq_false hngt
  clear e1 hlt c1 hke
  generalize hS : bs s = S at *
  go_wp2_with fail
  go_quiet (fail)
  go_wp2_with fail
  refine (HNM.out _ (quietN hgw3 _) (show ScanR (w3.drewN _) sb s k bad from hr3)).mono ?_
  rintro en w4 ⟨hgw4, rfl, hr4⟩
  have hz4 := hgw4.size
  go_wp2
  go_ret
  exact HFIN.out w4 hgw4 hr4
end Go.Proofs.YtedkjanogjglkaaGreatDoor.D
