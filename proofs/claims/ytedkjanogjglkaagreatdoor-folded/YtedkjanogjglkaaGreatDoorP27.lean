/-
  Parts of the proof: RRwK, SdText.
-/
import Derived.Test.YtedkjanogjglkaaGreatDoorP25
import Derived.Recover
import Derived.BigQuiet
import Derived.Test.YtedkjanogjglkaaGreatDoorP26
set_option maxRecDepth 100000
set_option maxHeartbeats 8000000
namespace Go.Proofs.YtedkjanogjglkaaGreatDoor
open Go.RowKit
open Go.Proofs.YtedkjanogjglkaaGreatDoor.Code (RTree Nm RSt Prs CRule Pair)
theorem catchF_idle (p : Addr) (w : World) :
  CallsD Tryz.prog 73 #[.pointer (some p)] .returning w fun e u' w' => e = .returned (.tuple #[]) /\ u' = .returning /\ w' = w := by
 refine callsD_of_wpS Tryz.func73 rfl fun c₀ cs hu => ?_
 apply wpS_seq
 apply wpS_region
 simp [wpOpsS, go_sem, recoverD, hu, Tryz.ntmps73, Exit.thenS]
 apply wpS_seq
 apply wpS_region
 simp [wpOpsS, go_sem, nilNe, Exit.thenS]
 refine wpS_cond (t := false) (by simp [Act.eval, Array.replicate]) ?_
 simp only [Bool.false_eq_true, if_false]
 refine wpS_of_wp (wp_skip ?_)
 cases c₀
 simp_all [bodyPostS, results, Tryz.results73]
theorem faceF_ok (s : List UInt8) (f : Code.Fn) (w : World) (hs : s.length <= 1500) (ht : Tab w) (hf : Code.FnIs s f) (hr : Code.Right f.blocks) :
  Calls Tryz.prog 36 #[.func (.func 37) #[] #[], .string (bs s)] w fun e w' => ∃ p c, e = .returned (.tuple #[.agg #[.int .i64 (f.args : Nat), .slice p f.blocks.length c], .agg #[.int .i64 0, .int .i64 0]]) /\ RepBlks w' 0 (.slice p f.blocks.length c) f.blocks /\ Below w.heap.size w w' := by
 have hmf : ∀ (fn : Fn) (first cap : Array Value) (w : World), (Instr.makeFunc fn first cap).run Tryz.prog w = .ok (.func fn first cap) w := fun _ _ _ _ => rfl
 have HRD : Hid (∀ w1, Below w.heap.size w w1 -> Calls Tryz.prog 37 #[.string (bs s)] w1 fun e w' => ∃ p c, e = .returned (.agg #[.int .i64 (f.args : Nat), .slice p f.blocks.length c]) /\ RepBlks w' 0 (.slice p f.blocks.length c) f.blocks /\ Below w1.heap.size w1 w') := hide fun w1 h1 => (read_ok s f w1 hs (ht.below h1) hf hr).mono fun e w' ⟨p, c, h2, h3, h4⟩ => ⟨p, c, h2, h3.mono (fun _ _ _ h => own_base h (Nat.zero_le _)) (fun _ _ _ h => own_base h (Nat.zero_le _)) (fun _ _ _ h => own_base h (Nat.zero_le _)), h4⟩
 clear ht hf hr
 go_enter_defers Tryz.func36, Tryz.ntmps36
 go_wp2_with fail
 have hx0 : ((w.alloc (.cells #[.int .i64 0, .slice none 0 0] 78)).alloc (.cells #[.int .i64 0, .int .i64 0] 61)).heap[w.heap.size]? = some (.cells #[.int .i64 0, .slice none 0 0] 78) := stay_alloc (heap_alloc_new w _)
 have hy0 := heap_alloc_new (w.alloc (.cells #[.int .i64 0, .slice none 0 0] 78)) (.cells #[.int .i64 0, .int .i64 0] 61)
 rw [alloc_size] at hy0
 have hb0 : Below w.heap.size w ((w.alloc (.cells #[.int .i64 0, .slice none 0 0] 78)).alloc (.cells #[.int .i64 0, .int .i64 0] 61)) := below_al (below_al (Below.refl _ _) _) _
 generalize (w.alloc (.cells #[.int .i64 0, .slice none 0 0] 78)).alloc (.cells #[.int .i64 0, .int .i64 0] 61) = w0 at *
 refine (HRD.out w0 hb0).mono ?_
 rintro e w1 ⟨p, c, rfl, hrep, hb1⟩
 have hx1 := (hb1.block _ (lt_of_block hx0)).trans hx0
 have hy1 := (hb1.block _ (lt_of_block hy0)).trans hy0
 have hbw1 : Below w.heap.size w w1 := hb0.trans (hb1.mono hb0.size)
 have HREP := hide hrep
 have c0 := blk_cell hx1 0 _ rfl
 have c1 := blk_cell hx1 1 _ rfl
 have g0 := blk_froz hx1 0
 have g1 := blk_froz hx1 1
 have d0 := blk_cell hy1 0 _ rfl
 have d1 := blk_cell hy1 1 _ rfl
 have f0 := blk_froz hy1 0
 have f1 := blk_froz hy1 1
 clear hrep
 go_wp2
 refine leaves_cons (f := 73) (args := #[.pointer (some ⟨w.heap.size + 1, 0, none⟩)]) (by simp) (by simp [go_sem]) ?_
 refine (catchF_idle ⟨w.heap.size + 1, 0, none⟩ _).mono ?_
 rintro e u' w'' ⟨rfl, rfl, rfl⟩
 have hx2 := set_block (o := 1) (v := .slice p f.blocks.length c) (set_block (o := 0) (v := .int .i64 (f.args : Nat)) hx1)
 have hy2 := stay_set (a := ⟨w.heap.size, 1, none⟩) (v := .slice p f.blocks.length c) (stay_set (a := ⟨w.heap.size, 0, none⟩) (v := .int .i64 (f.args : Nat)) hy1 (show w.heap.size + 1 ≠ w.heap.size by omega)) (show w.heap.size + 1 ≠ w.heap.size by omega)
 have hy3 := set_block (o := 1) (v := .int .i64 0) (set_block (o := 0) (v := .int .i64 0) hy2)
 have hx3 := stay_set (a := ⟨w.heap.size + 1, 1, none⟩) (v := .int .i64 0) (stay_set (a := ⟨w.heap.size + 1, 0, none⟩) (v := .int .i64 0) hx2 (show w.heap.size ≠ w.heap.size + 1 by omega)) (show w.heap.size ≠ w.heap.size + 1 by omega)
 have hr2 := (HREP.out.set (o := 0) (u := .int .i64 (f.args : Nat)) hx1 (by decide) (by decide) (by decide)).set (o := 1) (u := .slice p f.blocks.length c) (set_block hx1) (by decide) (by decide) (by decide)
 have hr3 := (hr2.set (o := 0) (u := .int .i64 0) hy2 (by decide) (by decide) (by decide)).set (o := 1) (u := .int .i64 0) (set_block hy2) (by decide) (by decide) (by decide)
 have hb3 : Below w.heap.size w ((((w1.setCell ⟨w.heap.size, 0, none⟩ (.int .i64 (f.args : Nat))).setCell ⟨w.heap.size, 1, none⟩ (.slice p f.blocks.length c)).setCell ⟨w.heap.size + 1, 0, none⟩ (.int .i64 0)).setCell ⟨w.heap.size + 1, 1, none⟩ (.int .i64 0)) := below_set (below_set (below_set (below_set hbw1 (Nat.le_refl _) _ _) (Nat.le_refl _) _ _) (by omega) _ _) (by omega) _ _
 have e0 := blk_cell hx3 0 (.int .i64 (f.args : Nat)) rfl
 have e1 := blk_cell hx3 1 (.slice p f.blocks.length c) rfl
 have e2 := blk_cell hy3 0 (.int .i64 0) rfl
 have e3 := blk_cell hy3 1 (.int .i64 0) rfl
 generalize (((w1.setCell ⟨w.heap.size, 0, none⟩ (.int .i64 (f.args : Nat))).setCell ⟨w.heap.size, 1, none⟩ (.slice p f.blocks.length c)).setCell ⟨w.heap.size + 1, 0, none⟩ (.int .i64 0)).setCell ⟨w.heap.size + 1, 1, none⟩ (.int .i64 0) = w5 at *
 refine ⟨.tuple #[.agg #[.int .i64 (f.args : Nat), .slice p f.blocks.length c], .agg #[.int .i64 0, .int .i64 0]], by simp [results, Tryz.results36, go_sem, e0, e1, e2, e3], ?_⟩
 exact ⟨p, c, rfl, hr3, hb3⟩
theorem chiselRewrite_given (rs ts : List UInt8) (picks : List Int) (l : List CRule) (f : Code.Fn) (out : List Code.Blk) (m : Nat) (er : Int) (pv : Value) (w : World) (hro : RulesAre rs (.ok l)) (hRin : ∀ R ∈ l, RuleIn R) (hRl : l.length <= 3000) (hlen : ts.length <= 1500) (hf : Code.FnIs ts f) (hr : Code.Right f.blocks) (hfine : Code.Fine f.blocks) (hfo : Code.NiceB out) (hargs : f.args < 1000) (hrew : Code.RewS f.args l picks 0 f.blocks out m er) (hmm : m <= 1000000) (hp : PicksAt w pv picks) (hin : ∀ p ∈ picks, -9223372036854775808 <= p /\ p <= 9223372036854775807) (hi : TabI w) (ht : Tab w) (hw : 0 < w.heap.size) :
  Calls Tryz.prog 16 #[.string (bs rs), .string (bs ts), pv] w fun e w' => e = .returned (.tuple #[.string (bs (Code.wrF f.args out)), .int .i64 (m : Nat), .int .i64 er]) /\ Below w.heap.size w w' := by
 have HFR := hide (faceR_any rs _ hro w ht hw)
 have HFF : Hid (∀ w1, Below w.heap.size w w1 -> Calls Tryz.prog 36 #[.func (.func 37) #[] #[], .string (bs ts)] w1 fun e w' => ∃ p c, e = .returned (.tuple #[.agg #[.int .i64 (f.args : Nat), .slice p f.blocks.length c], .agg #[.int .i64 0, .int .i64 0]]) /\ RepBlks w' 0 (.slice p f.blocks.length c) f.blocks /\ Below w1.heap.size w1 w') := hide fun w1 h1 => faceF_ok ts f w1 hlen (ht.below h1) hf hr
 have HRW : Hid (∀ w4 rsv p c, Below w.heap.size w w4 -> RepRules w4 0 rsv l -> RepBlks w4 0 (.slice p f.blocks.length c) f.blocks -> Calls Tryz.prog 38 #[rsv, .agg #[.int .i64 (f.args : Nat), .slice p f.blocks.length c], pv] w4 fun e w' => ∃ p' c', e = .returned (.tuple #[.agg #[.int .i64 (f.args : Nat), .slice p' out.length c'], .int .i64 (m : Nat), .int .i64 er]) /\ RepBlks w' 0 (.slice p' out.length c') out /\ Below w4.heap.size w4 w') := hide fun w4 rsv p c h4 h5 h6 => rewrite_any f.args l picks f.blocks out m er _ _ p c w4 h5 hRl hRin (hp.below h4) hin h6 hfine hargs (hi.below h4) (ht.below h4) hrew hmm
 have HTX : Hid (∀ w4 p' c', Below w.heap.size w w4 -> RepBlks w4 0 (.slice p' out.length c') out -> Calls Tryz.prog 39 #[.agg #[.int .i64 (f.args : Nat), .slice p' out.length c']] w4 fun e w' => e = .returned (.string (bs (Code.wrF f.args out))) /\ Below w4.heap.size w4 w') := hide fun w4 p' c' h4 h5 => text_any f.args out p' c' w4 h5 hfo hargs (hi.below h4) (ht.below h4)
 obtain ⟨pp, pc, rfl, _⟩ := hp
 generalize Code.wrF f.args out = TO at *
 clear hro hi ht hin hf hr hfine hrew hfo hRin hlen
 go_enter Tryz.func16, Tryz.ntmps16
 go_wp2_with fail
 refine HFR.out.mono ?_
 rintro e w1 ⟨⟨l', v, hor, rfl, hrep⟩ | ⟨n, why, hor, rfl⟩, hb1⟩
 ·simp only [Except.ok.injEq] at hor
  subst hor
  have HREP : Hid (RepRules w1 0 v l) := hide (hrep.mono (fun _ _ _ h => own_base h (Nat.zero_le _)) (fun b C T z h _ _ => h) (Nat.zero_le _))
  obtain ⟨cs, hcs, _⟩ := hrep
  obtain ⟨vp, vc, rfl⟩ := own_slice hcs
  clear hcs HFR
  go_wp2_with fail
  have hx2 := heap_alloc_new w1 (.cells #[.int .i64 0, .int .i64 0] 61)
  have hb12 := below_al (Below.refl w1.heap.size w1) (.cells #[.int .i64 0, .int .i64 0] 61)
  have hb2 := hb1.trans (hb12.mono hb1.size)
  have HREP2 := hide (HREP.out.below hb12)
  generalize w1.alloc (.cells #[.int .i64 0, .int .i64 0] 61) = w2 at *
  have hgf := hb1.size
  generalize w1.heap.size = gf at *
  refine (HFF.out w2 hb2).mono ?_
  rintro e w3 ⟨p, c, rfl, hrepf, hb3⟩
  have hx3 := (hb3.block _ (lt_of_block hx2)).trans hx2
  have hbw3 := hb2.trans (hb3.mono hb2.size)
  have HREP3 := hide (HREP2.out.below hb3)
  have HRF := hide hrepf
  have q0 := blk_cell hx3 0 _ rfl
  have q1 := blk_cell hx3 1 _ rfl
  have z0 := blk_froz hx3 0
  have z1 := blk_froz hx3 1
  have hl3 := lt_of_block hx3
  clear hrepf HREP HREP2 hx2 hb2 hb3 hb12 hb1
  go_wp2_with fail
  have hbw4 : Below w.heap.size w (((w3.setCell ⟨gf, 0, none⟩ (.int .i64 0)).setCell ⟨gf, 1, none⟩ (.int .i64 0)).alloc (.cells #[.int .i64 (f.args : Nat), .slice p f.blocks.length c] 78)) := below_al (below_set (below_set hbw3 hgf _ _) hgf _ _) _
  have hal := below_al (Below.refl _ ((w3.setCell ⟨gf, 0, none⟩ (.int .i64 0)).setCell ⟨gf, 1, none⟩ (.int .i64 0))) (.cells #[.int .i64 (f.args : Nat), .slice p f.blocks.length c] 78)
  have HREP4 := hide (((HREP3.out.setF (o := 0) (u := .int .i64 0) hx3).setF (o := 1) (u := .int .i64 0) (set_block hx3)).below hal)
  have HRF4 := hide (((HRF.out.set (o := 0) (u := .int .i64 0) hx3 (by decide) (by decide) (by decide)).set (o := 1) (u := .int .i64 0) (set_block hx3) (by decide) (by decide) (by decide)).below hal)
  generalize ((w3.setCell ⟨gf, 0, none⟩ (.int .i64 0)).setCell ⟨gf, 1, none⟩ (.int .i64 0)).alloc (.cells #[.int .i64 (f.args : Nat), .slice p f.blocks.length c] 78) = w4 at *
  clear q0 q1 z0 z1 hl3 hx3 hbw3 HREP3 HRF hal
  refine (HRW.out w4 _ p c hbw4 HREP4.out HRF4.out).mono ?_
  rintro e w5 ⟨p', c', rfl, hrep5, hb5⟩
  have hbw5 := hbw4.trans (hb5.mono hbw4.size)
  have HR5 := hide hrep5
  clear hrep5
  go_wp2_with fail
  have hal := below_al (Below.refl w5.heap.size w5) (.cells #[.int .i64 (f.args : Nat), .slice p' out.length c'] 78)
  refine (HTX.out _ p' c' (hbw5.trans (hal.mono hbw5.size)) (HR5.out.below hal)).mono ?_
  rintro e w6 ⟨rfl, hb6⟩
  have hbw6 : Below w.heap.size w w6 := (hbw5.trans (hal.mono hbw5.size)).trans (hb6.mono (hbw5.trans (hal.mono hbw5.size)).size)
  go_wp2
  refine bodyPost_ret (v := .tuple #[.string (bs TO), .int .i64 (m : Nat), .int .i64 er]) (by simp [results, Tryz.results16]) rfl ?_
  exact ⟨rfl, hbw6⟩
 ·cases hor
namespace Code
def rulesC : Nat -> List UInt8 -> Option (List CRule)
 | 0, _ => none
 | f + 1, s => if s = [] then some [] else if 10 ∈ s /\ ¬ idle (headOf s) then (match lineS (headOf s) with
  | .ok (n, r, ns) => (rulesC f (nextOf s)).map fun l => ⟨n, r, ns⟩ :: l
  | .error _ => none) else none
theorem rulesC_ok : ∀ (f : Nat) (s : List UInt8) (n : Nat) (l : List CRule), rulesC f s = some l -> RulesS n s (.ok l) /\ ∀ R ∈ l, RuleOk R
 | 0, _, _, _, h => by cases h
 | f + 1, s, n, l, h => by
  unfold rulesC at h
  split at h
  ·rename_i e
   simp only [Option.some.injEq] at h
   subst h e
   exact ⟨.done, fun R hR => by cases hR⟩
  ·split at h
   ·rename_i hc
    cases hl : lineS (headOf s) with
    | error e => rw [hl] at h; cases h
    | ok q =>
     obtain ⟨nd, rs, ns⟩ := q
     rw [hl] at h
     simp only [Option.map_eq_some_iff] at h
     obtain ⟨l', h1, rfl⟩ := h
     obtain ⟨h2, h3⟩ := rulesC_ok f (nextOf s) (n + 1) l' h1
     refine ⟨RulesS.more (o := .ok l') hc.1 hc.2 hl h2, fun R hR => ?_⟩
     rcases List.mem_cons.1 hR with rfl | hR
     ·exact lineS_rule hl
     ·exact h3 R hR
   ·cases h
def stdText : List UInt8 := [40, 97, 100, 100, 32, 35, 97, 32, 35, 98, 41, 32, 61, 62, 32, 33, 40, 97, 100, 100, 32, 35, 97, 32, 35, 98, 41, 10, 40, 115, 117, 98, 32, 35, 97, 32, 35, 98, 41, 32, 61, 62, 32, 33, 40, 115, 117, 98, 32, 35, 97, 32, 35, 98, 41, 10, 40, 109, 117, 108, 32, 35, 97, 32, 35, 98, 41, 32, 61, 62, 32, 33, 40, 109, 117, 108, 32, 35, 97, 32, 35, 98, 41, 10, 40, 97, 110, 100, 32, 35, 97, 32, 35, 98, 41, 32, 61, 62, 32, 33, 40, 97, 110, 100, 32, 35, 97, 32, 35, 98, 41, 10, 40, 111, 114, 32, 35, 97, 32, 35, 98, 41, 32, 61, 62, 32, 33, 40, 111, 114, 32, 35, 97, 32, 35, 98, 41, 10, 40, 120, 111, 114, 32, 35, 97, 32, 35, 98, 41, 32, 61, 62, 32, 33, 40, 120, 111, 114, 32, 35, 97, 32, 35, 98, 41, 10, 40, 115, 104, 108, 32, 35, 97, 32, 35, 98, 41, 32, 61, 62, 32, 33, 40, 115, 104, 108, 32, 35, 97, 32, 35, 98, 41, 10, 40, 115, 104, 114, 32, 35, 97, 32, 35, 98, 41, 32, 61, 62, 32, 33, 40, 115, 104, 114, 32, 35, 97, 32, 35, 98, 41, 10, 40, 101, 113, 32, 35, 97, 32, 35, 98, 41, 32, 61, 62, 32, 33, 40, 101, 113, 32, 35, 97, 32, 35, 98, 41, 10, 40, 108, 116, 32, 35, 97, 32, 35, 98, 41, 32, 61, 62, 32, 33, 40, 108, 116, 32, 35, 97, 32, 35, 98, 41, 10, 40, 110, 101, 103, 32, 35, 97, 41, 32, 61, 62, 32, 33, 40, 110, 101, 103, 32, 35, 97, 41, 10, 40, 110, 111, 116, 32, 35, 97, 41, 32, 61, 62, 32, 33, 40, 110, 111, 116, 32, 35, 97, 41, 10, 40, 115, 117, 98, 32, 120, 32, 120, 41, 32, 61, 62, 32, 48, 10, 40, 97, 110, 100, 32, 120, 32, 120, 41, 32, 61, 62, 32, 120, 10, 40, 111, 114, 32, 120, 32, 120, 41, 32, 61, 62, 32, 120, 10, 40, 120, 111, 114, 32, 120, 32, 120, 41, 32, 61, 62, 32, 48, 10, 40, 101, 113, 32, 120, 32, 120, 41, 32, 61, 62, 32, 49, 10, 40, 108, 116, 32, 120, 32, 120, 41, 32, 61, 62, 32, 48, 10, 40, 110, 101, 103, 32, 40, 110, 101, 103, 32, 120, 41, 41, 32, 61, 62, 32, 120, 10, 40, 110, 111, 116, 32, 40, 110, 111, 116, 32, 120, 41, 41, 32, 61, 62, 32, 120, 10, 40, 97, 100, 100, 32, 120, 32, 48, 41, 32, 61, 62, 32, 120, 10, 40, 97, 100, 100, 32, 48, 32, 120, 41, 32, 61, 62, 32, 120, 10, 40, 115, 117, 98, 32, 120, 32, 48, 41, 32, 61, 62, 32, 120, 10, 40, 115, 117, 98, 32, 48, 32, 120, 41, 32, 61, 62, 32, 40, 110, 101, 103, 32, 120, 41, 10, 40, 109, 117, 108, 32, 120, 32, 48, 41, 32, 61, 62, 32, 48, 10, 40, 109, 117, 108, 32, 48, 32, 120, 41, 32, 61, 62, 32, 48, 10, 40, 109, 117, 108, 32, 120, 32, 49, 41, 32, 61, 62, 32, 120, 10, 40, 109, 117, 108, 32, 49, 32, 120, 41, 32, 61, 62, 32, 120, 10, 40, 109, 117, 108, 32, 120, 32, 56, 41, 32, 61, 62, 32, 40, 115, 104, 108, 32, 120, 32, 51, 41, 10, 40, 97, 110, 100, 32, 120, 32, 48, 41, 32, 61, 62, 32, 48, 10, 40, 111, 114, 32, 120, 32, 48, 41, 32, 61, 62, 32, 120, 10, 40, 120, 111, 114, 32, 120, 32, 48, 41, 32, 61, 62, 32, 120, 10, 40, 115, 104, 108, 32, 120, 32, 48, 41, 32, 61, 62, 32, 120, 10, 40, 115, 104, 114, 32, 120, 32, 48, 41, 32, 61, 62, 32, 120, 10]
theorem stdC : rulesC 40 stdText = some stdRules := by kernel_rfl
end Code
theorem stdAre : RulesAre Code.stdText (.ok Code.stdRules) := Or.inr ⟨of_decide_eq_true (by kernel_rfl), (Code.rulesC_ok 40 _ 1 _ Code.stdC).1⟩
theorem stdFew : Code.stdRules.all (fun R => decide (R.names.length <= 6000)) = true := by kernel_rfl
theorem stdIn : ∀ R ∈ Code.stdRules, RuleIn R := fun R hR => ⟨(Code.rulesC_ok 40 _ 1 _ Code.stdC).2 R hR, of_decide_eq_true (List.all_eq_true.1 stdFew R hR)⟩
theorem sdRewrite {A : List Int} {t d : Bool} {σ : Nat -> Int} {vs : List Code.Val} {r : Nat} (h : Code.Ok1 A.length A t d σ vs r) (ha : A.length < 5) (hl : (Code.wrF A.length [⟨vs, .ret r⟩]).length <= 1500) (picks : List Int) (pv : Value) (w : World) (hp : PicksAt w pv picks) (hin : ∀ p ∈ picks, -9223372036854775808 <= p /\ p <= 9223372036854775807) (hi : TabI w) (ht : Tab w) (hw : 0 < w.heap.size) :
  Calls Tryz.prog 16 #[.string (bs Code.stdText), .string (bs (Code.wrF A.length [⟨vs, .ret r⟩])), pv] w fun e w' => (∃ vs' r' σ' m er, e = .returned (.tuple #[.string (bs (Code.wrF A.length [⟨vs', .ret r'⟩])), .int .i64 ((m : Nat) : Int), .int .i64 er]) /\ Code.Ok1 A.length A t d σ' vs' r' /\ σ' r' = σ r /\ (Code.wrF A.length [⟨vs', .ret r'⟩]).length <= 1500 /\ (er = 0 \/ er = 9) /\ Code.RewS A.length Code.stdRules picks 0 [⟨vs, .ret r⟩] [⟨vs', .ret r'⟩] m er) /\ Below w.heap.size w w' := by
 have hfine := h.fine ha
 obtain ⟨out, m, er, hrew, hm, hfo⟩ := Code.rewS_exists A.length Code.stdRules picks (fun R hR => (stdIn R hR).ok) 160000 [⟨vs, .ret r⟩] 0 hfine.good.sum hfine
 obtain ⟨vs', r', σ', rfl, h1, h2, h3, h4⟩ := Code.ok1_rew hrew rfl h hl
 refine (chiselRewrite_given Code.stdText _ picks Code.stdRules ⟨A.length, [⟨vs, .ret r⟩]⟩ [⟨vs', .ret r'⟩] m er pv w stdAre stdIn (by decide) hl (h.fn ha) h.right hfine hfo.good (by show A.length < 1000; omega) hrew (by omega) hp hin hi ht hw).mono ?_
 rintro e w' ⟨rfl, hb⟩
 exact ⟨⟨vs', r', σ', m, er, rfl, h1, h2, h3, h4, hrew⟩, hb⟩
namespace Code
def rulesM : List UInt8 := [40, 109, 117, 108, 32, 120, 32, 56, 41, 32, 61, 62, 32, 40, 115, 104, 108, 32, 120, 32, 51, 41, 10]
def moved : List UInt8 := [102, 117, 110, 99, 32, 49, 10, 98, 48, 58, 10, 118, 48, 32, 61, 32, 97, 114, 103, 32, 48, 10, 118, 51, 32, 61, 32, 99, 111, 110, 115, 116, 32, 51, 10, 118, 50, 32, 61, 32, 115, 104, 108, 32, 118, 48, 32, 118, 51, 10, 114, 101, 116, 32, 118, 50, 10]
def ruleM : CRule := rX 2 [nX, .num 8] (.op 7 [nX, .num 3])
def fnM : List Blk := [⟨[⟨0, .arg 0⟩, ⟨3, .const 3⟩, ⟨2, .apply 7 [0, 3]⟩], .ret 2⟩]
theorem mC : rulesC 2 rulesM = some [ruleM] := by kernel_rfl
end Code
theorem rewM : Code.RewS 1 [Code.ruleM] [] 0 Code.fnW1.blocks Code.fnM 1 0 :=
 .next (p := ⟨0, 2, Code.ruleM⟩) (by kernel_rfl) (by kernel_rfl) (.done (by kernel_rfl))
theorem niceW1 : Code.NiceB Code.fnW1.blocks := by
 refine ⟨by decide, by decide, ?_, ?_⟩
 ·simp [Code.fnW1, Code.NiceV, Code.NiceT]
  decide
 ·simp [Code.fnW1, Code.NiceL]
theorem niceM : Code.NiceB Code.fnM := by
 refine ⟨by decide, by decide, ?_, ?_⟩
 ·simp [Code.fnM, Code.NiceV, Code.NiceT]
  decide
 ·simp [Code.fnM, Code.NiceL]
theorem picksNone (w : World) : PicksAt w (.slice none 0 0) [] := ⟨none, 0, rfl, fun j h => by simp at h⟩
theorem rewriteG (w : World) (hi : TabI w) (ht : Tab w) (hw : 0 < w.heap.size) : Calls Tryz.prog 16 #[.string (bs Code.rulesM), .string (bs Code.textW1), .slice none 0 0] w fun e w' => e = .returned (.tuple #[.string (bs Code.moved), .int .i64 1, .int .i64 0]) /\ Below w.heap.size w w' := by
 have hc := Code.rulesC_ok 2 _ 1 _ Code.mC
 have hin : ∀ R ∈ [Code.ruleM], RuleIn R := fun R hR => ⟨hc.2 R hR, by rw [List.mem_singleton.1 hR]; decide⟩
 have h := chiselRewrite_given Code.rulesM Code.textW1 [] [Code.ruleM] Code.fnW1 Code.fnM 1 0 (.slice none 0 0) w (Or.inr ⟨by decide, hc.1⟩) hin (by decide) (by decide) Code.isW1 Code.rightW1 ⟨niceW1, by unfold Code.OnceN; decide⟩ niceM (by decide) rewM (by omega) (picksNone w) (by simp) hi ht hw
 have e : Code.wrF Code.fnW1.args Code.fnM = Code.moved := by kernel_rfl
 rw [e] at h
 exact h
theorem keepRules_any (w : World) (hi : TabI w) (ht : Tab w) : Calls Tryz.prog 15 #[] w fun e w' => e = .returned (.bool true) /\ Below w.heap.size w w' := by
 have hp := ht.pos
 have HR := hide (rewriteG w hi ht hp)
 clear hi ht
 go_enter Tryz.func15, Tryz.ntmps15
 go_wp2_with fail
 refine HR.out.mono ?_
 rintro e w1 ⟨rfl, hb1⟩
 have hq : ((bs Code.moved).toList == [102, 117, 110, 99, 32, 49, 10, 98, 48, 58, 10, 118, 48, 32, 61, 32, 97, 114, 103, 32, 48, 10, 118, 51, 32, 61, 32, 99, 111, 110, 115, 116, 32, 51, 10, 118, 50, 32, 61, 32, 115, 104, 108, 32, 118, 48, 32, 118, 51, 10, 114, 101, 116, 32, 118, 50, 10]) = true := by
  rw [ByteArray.toList_eq]
  kernel_rfl
 generalize bs Code.moved = mv at *
 go_wp2
 go_ret
 exact ⟨rfl, hb1⟩
theorem standard_any (w : World) : Calls Tryz.prog 18 #[] w fun e w' => e = .returned (.string (bs Code.stdText)) /\ w' = w := by
 go_enter Tryz.func18, Tryz.ntmps18
 go_wp2
 go_ret
 exact ⟨rfl, rfl⟩
end Go.Proofs.YtedkjanogjglkaaGreatDoor
