/-
  Parts of the proof: RFaceF, XReach, XAhead, RefEdges, RefReach, RefPlace, RefMade, RefUses.
-/
import Derived.Test.YtedkjanogjglkaaGreatDoorP27
import Derived.Recover
import Derived.BigQuiet
import Derived.Test.YtedkjanogjglkaaGreatDoorP04
import Derived.Test.YtedkjanogjglkaaGreatDoorP07
import Derived.Test.YtedkjanogjglkaaGreatDoorP12
import Derived.Deep.RegionHeld3
set_option maxRecDepth 100000
set_option maxHeartbeats 4000000
namespace Go.Proofs.YtedkjanogjglkaaGreatDoor
open Go.RowKit
open Go.Proofs.YtedkjanogjglkaaGreatDoor.Code (RTree Nm RSt Prs CRule Pair)
theorem catchF_idle (p : Addr) (w : World) :
  CallsD Tryz.prog 73 #[.pointer (some p)] .returning w fun e u' w' => e = .returned (.tuple #[]) /\ u' = .returning /\ w' = w := by
 refine callsD_of_wpS Tryz.func73 rfl fun c₀ cs hu => ?_
 apply wpS_seq
 apply wpS_region
 simp [wpOpsS, go_sem, recoverD, hu, Tryz.ntmps73, Exit.thenS]
 apply wpS_seq
 apply wpS_region
 simp [wpOpsS, go_sem, nilNe, Exit.thenS]
 refine wpS_cond (t := false) (by simp [Act.eval, Array.replicate]) ?_
 simp only [Bool.false_eq_true, if_false]
 refine wpS_of_wp (wp_skip ?_)
 cases c₀
 simp_all [bodyPostS, results, Tryz.results73]
theorem catchF_fault (b : Nat) (x y why l : Int) (w : World) (hb : w.heap[b]? = some (.cells #[.int .i64 x, .int .i64 y] 61)) :
  CallsD Tryz.prog 73 #[.pointer (some ⟨b, 0, none⟩)] (.panicking [{ v := .iface 61 (.agg #[.int .i64 why, .int .i64 l]), recovered := false }]) w fun e u' w' =>
   e = .returned (.tuple #[]) /\ u' = .panicking [{ v := .iface 61 (.agg #[.int .i64 why, .int .i64 l]), recovered := true }] /\ ∃ w1, Below w.heap.size w w1 /\ w' = (w1.setCell ⟨b, 0, none⟩ (.int .i64 why)).setCell ⟨b, 1, none⟩ (.int .i64 l) := by
 refine callsD_of_wpS Tryz.func73 rfl fun c₀ cs hu => ?_
 apply wpS_seq
 apply wpS_region
 simp [wpOpsS, go_sem, recoverD, hu, Tryz.ntmps73, Exit.thenS]
 apply wpS_seq
 apply wpS_region
 simp [wpOpsS, go_sem, someNe, Exit.thenS]
 refine wpS_cond (t := true) (by simp [Act.eval, Array.replicate]) ?_
 simp only [if_true]
 refine wpS_of_wp ?_
 have ht : (#[Value.pointer (some ⟨b, 0, none⟩)] ++
     ((((Array.replicate 6 undef).setIfInBounds 1
            (Value.iface 61
             (Value.agg #[Value.int IntKind.i64 why, Value.int IntKind.i64 l]))).setIfInBounds
          0 (Value.iface 61 (Value.agg #[Value.int IntKind.i64 why, Value.int IntKind.i64 l]))).setIfInBounds
        2 (Value.iface 61 (Value.agg #[Value.int IntKind.i64 why, Value.int IntKind.i64 l]))).setIfInBounds
      3 (Value.bool true)) = #[.pointer (some ⟨b, 0, none⟩), .iface 61 (.agg #[.int .i64 why, .int .i64 l]), .iface 61 (.agg #[.int .i64 why, .int .i64 l]), .iface 61 (.agg #[.int .i64 why, .int .i64 l]), .bool true, undef, undef] := by rfl
 rw [ht]
 go_wp2_with fail
 refine (faultOf_any why l w).mono ?_
 rintro e w1 ⟨rfl, hb1⟩
 have hbb := (hb1.block _ (lt_of_block hb)).trans hb
 have c0 := blk_cell hbb 0 _ rfl
 have c1 := blk_cell hbb 1 _ rfl
 have z0 := blk_froz hbb 0
 have z1 := blk_froz hbb 1
 go_wp2
 simp [bodyPostS, results, Tryz.results73]
 exact ⟨w1, hb1, rfl⟩
def ReadF (s : List UInt8) (w : World) (e : Ending) (w' : World) : Prop :=
 ((∃ f p c, s.length <= 1500 /\ Code.FnIs s f /\ Code.Right f.blocks /\ e = .returned (.agg #[.int .i64 (f.args : Nat), .slice p f.blocks.length c]) /\ RepBlks w' 0 (.slice p f.blocks.length c) f.blocks) \/ (∃ er l, Code.ErrOf s er /\ e = .panicked [{ v := .iface 61 (.agg #[.int .i64 er, .int .i64 l]), recovered := false }])) /\ Below w.heap.size w w'
theorem codeRead_any (s : List UInt8) (w : World) (ht : Tab w) : Calls Tryz.prog 37 #[.string (bs s)] w fun e w' => ReadF s w e w' := by
 by_cases hlen : 1500 < s.length
 ·refine (read_long (bs s) w (by rw [bs_size]; exact hlen)).mono ?_
  rintro e w' ⟨⟨l, h1⟩, h2⟩
  exact ⟨Or.inr ⟨1, l, Code.ErrOf.text (Or.inl hlen), h1⟩, h2⟩
 ·by_cases hf : ∃ f, Code.FnIs s f
  ·obtain ⟨f, hf⟩ := hf
   by_cases hr : Code.Right f.blocks
   ·refine (read_ok s f w (by omega) ht hf hr).mono ?_
    rintro e w' ⟨p, c, h1, h2, h3⟩
    exact ⟨Or.inl ⟨f, p, c, by omega, hf, hr, h1, h2.mono (fun _ _ _ h => own_base h (Nat.zero_le _)) (fun _ _ _ h => own_base h (Nat.zero_le _)) (fun _ _ _ h => own_base h (Nat.zero_le _))⟩, h3⟩
   ·refine (read_form s f w (by omega) ht hf (Code.wf_fn hf (by omega)) hr).mono ?_
    rintro e w' ⟨⟨l, h1⟩, h2⟩
    exact ⟨Or.inr ⟨2, l, Code.ErrOf.form (by omega) hf hr, h1⟩, h2⟩
  ·have hf' : ∀ f, ¬ Code.FnIs s f := fun f h => hf ⟨f, h⟩
   refine (read_none s w (by omega) ht hf').mono ?_
   rintro e w' ⟨⟨l, h1⟩, h2⟩
   exact ⟨Or.inr ⟨1, l, Code.ErrOf.text (Or.inr hf'), h1⟩, h2⟩
def FaceF (s : List UInt8) (w : World) (e : Ending) (w' : World) : Prop :=
 ((∃ f p c, s.length <= 1500 /\ Code.FnIs s f /\ Code.Right f.blocks /\ e = .returned (.tuple #[.agg #[.int .i64 (f.args : Nat), .slice p f.blocks.length c], .agg #[.int .i64 0, .int .i64 0]]) /\ RepBlks w' 0 (.slice p f.blocks.length c) f.blocks) \/ (∃ er l, Code.ErrOf s er /\ e = .returned (.tuple #[.agg #[.int .i64 0, .slice none 0 0], .agg #[.int .i64 er, .int .i64 l]]))) /\ Below w.heap.size w w'
theorem faceF_any (s : List UInt8) (w : World) (ht : Tab w) :
  Calls Tryz.prog 36 #[.func (.func 37) #[] #[], .string (bs s)] w fun e w' => FaceF s w e w' := by
 have hmf : ∀ (fn : Fn) (first cap : Array Value) (w : World), (Instr.makeFunc fn first cap).run Tryz.prog w = .ok (.func fn first cap) w := fun _ _ _ _ => rfl
 have HT := hide ht
 clear ht
 go_enter_defers Tryz.func36, Tryz.ntmps36
 go_wp2_with fail
 have hx0 : ((w.alloc (.cells #[.int .i64 0, .slice none 0 0] 78)).alloc (.cells #[.int .i64 0, .int .i64 0] 61)).heap[w.heap.size]? = some (.cells #[.int .i64 0, .slice none 0 0] 78) := stay_alloc (heap_alloc_new w _)
 have hy0 := heap_alloc_new (w.alloc (.cells #[.int .i64 0, .slice none 0 0] 78)) (.cells #[.int .i64 0, .int .i64 0] 61)
 rw [alloc_size] at hy0
 have hb0 : Below w.heap.size w ((w.alloc (.cells #[.int .i64 0, .slice none 0 0] 78)).alloc (.cells #[.int .i64 0, .int .i64 0] 61)) := below_al (below_al (Below.refl _ _) _) _
 generalize (w.alloc (.cells #[.int .i64 0, .slice none 0 0] 78)).alloc (.cells #[.int .i64 0, .int .i64 0] 61) = w0 at *
 have hz0 := hb0.size
 refine (codeRead_any s w0 (HT.out.below hb0)).mono ?_
 rintro e w1 ⟨⟨f, p, c, hlen, hf, hr, rfl, hrep⟩ | ⟨er, l, her, rfl⟩, hb1⟩
 ·have hx1 := (hb1.block _ (lt_of_block hx0)).trans hx0
  have hy1 := (hb1.block _ (lt_of_block hy0)).trans hy0
  have hbw1 : Below w.heap.size w w1 := hb0.trans (hb1.mono hb0.size)
  have HREP := hide hrep
  have c0 := blk_cell hx1 0 _ rfl
  have c1 := blk_cell hx1 1 _ rfl
  have g0 := blk_froz hx1 0
  have g1 := blk_froz hx1 1
  have d0 := blk_cell hy1 0 _ rfl
  have d1 := blk_cell hy1 1 _ rfl
  have f0 := blk_froz hy1 0
  have f1 := blk_froz hy1 1
  clear hrep
  go_wp2
  refine leaves_cons (f := 73) (args := #[.pointer (some ⟨w.heap.size + 1, 0, none⟩)]) (by simp) (by simp [go_sem]) ?_
  refine (catchF_idle ⟨w.heap.size + 1, 0, none⟩ _).mono ?_
  rintro e u' w'' ⟨rfl, rfl, rfl⟩
  have hx2 := set_block (o := 1) (v := .slice p f.blocks.length c) (set_block (o := 0) (v := .int .i64 (f.args : Nat)) hx1)
  have hy2 := stay_set (a := ⟨w.heap.size, 1, none⟩) (v := .slice p f.blocks.length c) (stay_set (a := ⟨w.heap.size, 0, none⟩) (v := .int .i64 (f.args : Nat)) hy1 (show w.heap.size + 1 ≠ w.heap.size by omega)) (show w.heap.size + 1 ≠ w.heap.size by omega)
  have hy3 := set_block (o := 1) (v := .int .i64 0) (set_block (o := 0) (v := .int .i64 0) hy2)
  have hx3 := stay_set (a := ⟨w.heap.size + 1, 1, none⟩) (v := .int .i64 0) (stay_set (a := ⟨w.heap.size + 1, 0, none⟩) (v := .int .i64 0) hx2 (show w.heap.size ≠ w.heap.size + 1 by omega)) (show w.heap.size ≠ w.heap.size + 1 by omega)
  have hr2 := (HREP.out.set (o := 0) (u := .int .i64 (f.args : Nat)) hx1 (by decide) (by decide) (by decide)).set (o := 1) (u := .slice p f.blocks.length c) (set_block hx1) (by decide) (by decide) (by decide)
  have hr3 := (hr2.set (o := 0) (u := .int .i64 0) hy2 (by decide) (by decide) (by decide)).set (o := 1) (u := .int .i64 0) (set_block hy2) (by decide) (by decide) (by decide)
  have hb3 : Below w.heap.size w ((((w1.setCell ⟨w.heap.size, 0, none⟩ (.int .i64 (f.args : Nat))).setCell ⟨w.heap.size, 1, none⟩ (.slice p f.blocks.length c)).setCell ⟨w.heap.size + 1, 0, none⟩ (.int .i64 0)).setCell ⟨w.heap.size + 1, 1, none⟩ (.int .i64 0)) := below_set (below_set (below_set (below_set hbw1 (Nat.le_refl _) _ _) (Nat.le_refl _) _ _) (by omega) _ _) (by omega) _ _
  have e0 := blk_cell hx3 0 (.int .i64 (f.args : Nat)) rfl
  have e1 := blk_cell hx3 1 (.slice p f.blocks.length c) rfl
  have e2 := blk_cell hy3 0 (.int .i64 0) rfl
  have e3 := blk_cell hy3 1 (.int .i64 0) rfl
  generalize (((w1.setCell ⟨w.heap.size, 0, none⟩ (.int .i64 (f.args : Nat))).setCell ⟨w.heap.size, 1, none⟩ (.slice p f.blocks.length c)).setCell ⟨w.heap.size + 1, 0, none⟩ (.int .i64 0)).setCell ⟨w.heap.size + 1, 1, none⟩ (.int .i64 0) = w5 at *
  refine ⟨.tuple #[.agg #[.int .i64 (f.args : Nat), .slice p f.blocks.length c], .agg #[.int .i64 0, .int .i64 0]], by simp [results, Tryz.results36, go_sem, e0, e1, e2, e3], ?_⟩
  exact ⟨Or.inl ⟨f, p, c, hlen, hf, hr, rfl, hr3⟩, hb3⟩
 ·have hx1 := (hb1.block _ (lt_of_block hx0)).trans hx0
  have hy1 := (hb1.block _ (lt_of_block hy0)).trans hy0
  have hbw1 : Below w.heap.size w w1 := hb0.trans (hb1.mono hb0.size)
  go_wp2
  refine leaves_cons (f := 73) (args := #[.pointer (some ⟨w.heap.size + 1, 0, none⟩)]) (by simp) (by simp [go_sem]) ?_
  refine (catchF_fault (w.heap.size + 1) 0 0 er l w1 hy1).mono ?_
  rintro e u' w'' ⟨rfl, rfl, w2, hb2, rfl⟩
  have hx2 := (hb2.block _ (lt_of_block hx1)).trans hx1
  have hy2 := (hb2.block _ (lt_of_block hy1)).trans hy1
  have hbw2 : Below w.heap.size w w2 := hbw1.trans (hb2.mono hbw1.size)
  have hy3 := set_block (o := 1) (v := .int .i64 l) (set_block (o := 0) (v := .int .i64 er) hy2)
  have hx3 := stay_set (a := ⟨w.heap.size + 1, 1, none⟩) (v := .int .i64 l) (stay_set (a := ⟨w.heap.size + 1, 0, none⟩) (v := .int .i64 er) hx2 (show w.heap.size ≠ w.heap.size + 1 by omega)) (show w.heap.size ≠ w.heap.size + 1 by omega)
  have e0 := blk_cell hy3 0 (.int .i64 er) rfl
  have e1 := blk_cell hy3 1 (.int .i64 l) rfl
  have e2 := blk_cell hx3 0 _ rfl
  have e3 := blk_cell hx3 1 _ rfl
  simp [Leaves, settle, results, Tryz.results36, go_sem, e0, e1, e2, e3]
  exact ⟨Or.inr ⟨er, l, her, rfl⟩, below_set (below_set hbw2 (by omega) _ _) (by omega) _ _⟩
end Go.Proofs.YtedkjanogjglkaaGreatDoor
namespace Go.Proofs.YtedkjanogjglkaaGreatDoor.Code
def Reached (bks : List Blk) (i : Nat) : Prop := ∀ S : Nat -> Prop, S 0 -> (∀ a (h : a < bks.length) (t : Nat), S a -> t ∈ tg bks[a].last -> S t) -> S i
structure Marked (T : List (List Nat)) (l : List Nat) (R R' : List Bool) : Prop where
 len : R'.length = R.length
 mono : ∀ i, R.getD i false = true -> R'.getD i false = true
 hit : ∀ b ∈ l, R'.getD b false = true
 closed : ∀ x, R'.getD x false = true -> R.getD x false = false -> ∀ t ∈ T.getD x [], R'.getD t false = true
 sound : ∀ S : Nat -> Prop, (∀ b ∈ l, S b) -> (∀ a t, S a -> t ∈ T.getD a [] -> S t) -> ∀ x, R'.getD x false = true -> R.getD x false = false -> S x
theorem getD_true {R : List Bool} {b : Nat} (h : b < R.length) : R.getD b true = R.getD b false := by
 simp [List.getD_eq_getElem?_getD, h]
theorem fold_marked (T : List (List Nat)) (n f : Nat) (ih : ∀ (R : List Bool) (b : Nat), R.length = n -> b < n -> falses R < f -> Marked T [b] R (reachF f T R b)) :
  ∀ (l : List Nat) (R : List Bool), (∀ t ∈ l, t < n) -> R.length = n -> falses R < f -> Marked T l R (l.foldl (reachF f T) R)
 | [], R, _, _, _ => ⟨rfl, fun _ h => h, by simp, fun x h h' => Bool.noConfusion ((show R.getD x false = true from h).symm.trans h'), fun S _ _ x h h' => Bool.noConfusion ((show R.getD x false = true from h).symm.trans h')⟩
 | t :: l, R, hl, hR, hf => by
  have h1 := ih R t hR (hl t List.mem_cons_self) hf
  have hfac := reachF_facts f T R t
  have h2 := fold_marked T n f ih l (reachF f T R t) (fun x hx => hl x (List.mem_cons_of_mem _ hx)) (by rw [hfac.1]; exact hR) (by omega)
  rw [List.foldl_cons]
  generalize reachF f T R t = R1 at *
  generalize l.foldl (reachF f T) R1 = R2 at *
  refine ⟨by rw [h2.len, h1.len], fun i h => h2.mono i (h1.mono i h), fun b hb => ?_, fun x hx hx' u hu => ?_, fun S hS hc x hx hx' => ?_⟩
  ·rcases List.mem_cons.1 hb with rfl | hb
   ·exact h2.mono _ (h1.hit _ List.mem_cons_self)
   ·exact h2.hit b hb
  ·cases h : R1.getD x false with
   | true => exact h2.mono _ (h1.closed x h hx' u hu)
   | false => exact h2.closed x hx h u hu
  ·cases h : R1.getD x false with
   | true => exact h1.sound S (fun b hb => by rw [List.mem_singleton.1 hb]; exact hS t List.mem_cons_self) hc x h hx'
   | false => exact h2.sound S (fun b hb => hS b (List.mem_cons_of_mem _ hb)) hc x hx h
theorem reachF_marked (T : List (List Nat)) (n : Nat) (hT : ∀ b, ∀ t ∈ T.getD b [], t < n) : ∀ (f : Nat) (R : List Bool) (b : Nat), R.length = n -> b < n -> falses R < f -> Marked T [b] R (reachF f T R b)
 | 0, R, b, _, _, hf => by omega
 | f + 1, R, b, hR, hb, hf => by
  by_cases h : R.getD b true = true
  ·rw [reachF_yes h]
   rw [getD_true (by omega)] at h
   exact ⟨rfl, fun _ h => h, fun x hx => by rw [List.mem_singleton.1 hx]; exact h, fun x h h' => Bool.noConfusion (h.symm.trans h'), fun S _ _ x h h' => Bool.noConfusion (h.symm.trans h')⟩
  ·have hf0 : R.getD b true = false := by simpa using h
   rw [reachF_no hf0]
   rw [getD_true (by omega)] at hf0
   have hRb : R[b]'(by omega) = false := by
    rw [List.getD_eq_getElem?_getD, List.getElem?_eq_getElem (by omega)] at hf0
    exact hf0
   have hfs := falses_set R b (by omega) hRb
   have h2 := fold_marked T n f (reachF_marked T n hT f) (T.getD b []) (R.set b true) (hT b) (by simpa using hR) (by omega)
   generalize (T.getD b []).foldl (reachF f T) (R.set b true) = R2 at *
   have hset : ∀ i, i ≠ b -> (R.set b true).getD i false = R.getD i false := fun i hi => by
    rw [List.getD_eq_getElem?_getD, List.getD_eq_getElem?_getD, List.getElem?_set_ne (by omega)]
   have hsb : (R.set b true).getD b false = true := by
    rw [List.getD_eq_getElem?_getD, List.getElem?_set_self (by omega)]; rfl
   refine ⟨by rw [h2.len]; simp, fun i hi => ?_, fun x hx => ?_, fun x hx hx' u hu => ?_, fun S hS hc x hx hx' => ?_⟩
   ·by_cases e : i = b
    ·subst e; exact h2.mono _ hsb
    ·exact h2.mono _ (by rw [hset i e]; exact hi)
   ·rw [List.mem_singleton.1 hx]; exact h2.mono _ hsb
   ·by_cases e : x = b
    ·subst e; exact h2.hit u hu
    ·exact h2.closed x hx (by rw [hset x e]; exact hx') u hu
   ·have hSb := hS b List.mem_cons_self
    by_cases e : x = b
    ·subst e; exact hSb
    ·exact h2.sound S (fun t ht => hc b t hSb ht) hc x hx (by rw [hset x e]; exact hx')
theorem tgs_lt {bks : List Blk} (hg : ∀ b ∈ bks, ∀ t ∈ tg b.last, t < bks.length) (b : Nat) : ∀ t ∈ (tgs bks).getD b [], t < bks.length := by
 intro t ht
 by_cases h : b < bks.length
 ·rw [tgs_get bks b h] at ht
  exact hg _ (List.getElem_mem h) t ht
 ·rw [List.getD_eq_getElem?_getD, List.getElem?_eq_none (by simp [tgs]; omega)] at ht
  simp at ht
theorem reached_iff (bks : List Blk) (hn : bks.length <= 8) (hn0 : 0 < bks.length) (hg : ∀ b ∈ bks, ∀ t ∈ tg b.last, t < bks.length) :
  reachF 9 (tgs bks) (List.replicate bks.length false) 0 = List.replicate bks.length true ↔ ∀ i, i < bks.length -> Reached bks i := by
 have hf : falses (List.replicate bks.length false) < 9 := by
  have : falses (List.replicate bks.length false) = bks.length := by rw [falses, List.countP_replicate]; rfl
  omega
 have hm := reachF_marked (tgs bks) bks.length (tgs_lt hg) 9 (List.replicate bks.length false) 0 (by simp) hn0 hf
 have h0 : ∀ i, (List.replicate bks.length false).getD i false = false := fun i => by
  simp [List.getD_eq_getElem?_getD, List.getElem?_replicate]
  split <;> rfl
 generalize reachF 9 (tgs bks) (List.replicate bks.length false) 0 = R at *
 have hlen : R.length = bks.length := by rw [hm.len]; simp
 constructor
 ·intro e i hi S hS hc
  refine hm.sound (fun j => S j) (fun b hb => by rw [List.mem_singleton.1 hb]; exact hS) (fun a t ha ht => ?_) i (by rw [e]; simp [List.getD_eq_getElem?_getD, hi]) (h0 i)
  by_cases h : a < bks.length
  ·rw [tgs_get bks a h] at ht
   exact hc a h t ha ht
  ·rw [List.getD_eq_getElem?_getD, List.getElem?_eq_none (by simp [tgs]; omega)] at ht
   simp at ht
 ·intro h
  apply List.ext_getElem
  ·rw [hlen]; simp
  ·intro i h1 h2
   have := h i (by omega) (fun j => R.getD j false = true) (hm.hit 0 List.mem_cons_self) (fun a ha t hRa ht => hm.closed a hRa (h0 a) t (by rw [tgs_get bks a ha]; exact ht))
   rw [List.getD_eq_getElem?_getD, List.getElem?_eq_getElem h1] at this
   simp only [Option.getD_some] at this
   rw [this]; simp
inductive Free (bks : List Blk) (x : Nat) : Nat -> Prop
 | start : Free bks x 0
 | step {a t : Nat} (h : a < bks.length) : Free bks x a -> x ∉ nums bks[a].values -> t ∈ tg bks[a].last -> Free bks x t
theorem addAll_get (l : List Val) : ∀ (R : List Bool) (x : Nat), (∀ v ∈ l, v.num < R.length) -> ((addAll R l).getD x false = true ↔ R.getD x false = true \/ x ∈ nums l) := by
 induction l with
 | nil => intro R x _; simp [addAll, nums]
 | cons v l ih =>
  intro R x h
  have e : addAll R (v :: l) = addAll (R.set v.num true) l := rfl
  rw [e, ih (R.set v.num true) x (fun y hy => by simpa using h y (List.mem_cons_of_mem _ hy))]
  have hv := h v List.mem_cons_self
  by_cases hx : x = v.num
  ·subst hx
   simp [nums, List.getD_eq_getElem?_getD, List.getElem?_set_self hv]
  ·rw [set_getD R v.num x hx]
   simp [nums, hx]
theorem both_get (R S : List Bool) (x : Nat) (h : R.length = 60) (h' : S.length = 60) : ((both R S).getD x false = true ↔ R.getD x false = true /\ S.getD x false = true) := by
 unfold both
 simp only [List.getD_eq_getElem?_getD, List.getElem?_zipWith]
 by_cases hx : x < 60
 ·rw [List.getElem?_eq_getElem (by omega), List.getElem?_eq_getElem (by omega)]
  simp
 ·rw [List.getElem?_eq_none (by omega), List.getElem?_eq_none (by omega)]
  simp
def Keeps (bks : List Blk) (A : Sets) : Prop := ∀ j, j < bks.length -> ∀ x, x < 60 -> ¬ Free bks x j -> (A.getD j []).getD x false = true
theorem set_get (A : Sets) (t j : Nat) (R : List Bool) (h : t < A.length) : (A.set t R).getD j [] = if j = t then R else A.getD j [] := by
 by_cases e : j = t
 ·subst e
  rw [if_pos rfl, List.getD_eq_getElem?_getD, List.getElem?_set_self h]; rfl
 ·rw [if_neg e, List.getD_eq_getElem?_getD, List.getElem?_set_ne (by omega)]
  exact (List.getD_eq_getElem?_getD ..).symm
structure Good (bks : List Blk) (A : Sets) : Prop where
 len : A.length = bks.length
 all : All60 A
 keeps : Keeps bks A
 zero : A.getD 0 [] = noNumber
theorem getD_mem60 {A : Sets} (h : All60 A) {j : Nat} (hj : j < A.length) : (A.getD j []).length = 60 := by
 rw [List.getD_eq_getElem?_getD, List.getElem?_eq_getElem hj]
 exact h _ (List.getElem_mem hj)
theorem step_good {bks : List Blk} {A : Sets} {c : Bool} (h : Good bks A) {j t : Nat} (hj : j < bks.length) (ht : t < bks.length) (ht1 : 1 <= t) (htg : t ∈ tg bks[j].last) {e : List Bool}
  (he : e.length = 60) (hek : ∀ x, x < 60 -> (x ∈ nums bks[j].values \/ ¬ Free bks x j) -> e.getD x false = true) : Good bks (stepT e (A, c) t).1 := by
 have hlen := h.len
 have hb60 : (both (A.getD t []) e).length = 60 := both_length (getD_mem60 h.all (by omega)) he
 refine ⟨by simp [stepT, hlen], ?_, ?_, ?_⟩
 ·exact h.all.set t hb60
 ·intro k hk x hx hfr
  show ((A.set t (both (A.getD t []) e)).getD k []).getD x false = true
  rw [set_get A t k _ (by omega)]
  by_cases hkt : k = t
  ·subst hkt
   rw [if_pos rfl, both_get _ _ x (getD_mem60 h.all (by omega)) he]
   refine ⟨h.keeps k hk x hx hfr, hek x hx ?_⟩
   by_cases hx' : x ∈ nums bks[j].values
   ·exact Or.inl hx'
   ·exact Or.inr fun hf => hfr (Free.step hj hf hx' htg)
  ·rw [if_neg hkt]
   exact h.keeps k hk x hx hfr
 ·show (A.set t _).getD 0 [] = noNumber
  rw [set_get A t 0 _ (by omega), if_neg (by omega)]
  exact h.zero
theorem end_len {bks : List Blk} {A : Sets} (h : Good bks A) {j : Nat} (hj : j < bks.length) (l : List Val) : (addAll (A.getD j []) l).length = 60 := by
 rw [addAll_length]; exact getD_mem60 h.all (by rw [h.len]; exact hj)
theorem stepB_good {bks : List Blk} (hnum : ∀ b ∈ bks, ∀ v ∈ b.values, v.num < 60) (hg : ∀ b ∈ bks, ∀ t ∈ tg b.last, 1 <= t /\ t < bks.length) {A : Sets} {c : Bool} (h : Good bks A) {j : Nat} (hj : j < bks.length) : Good bks (stepB (A, c) j bks[j]).1 := by
 have he : (addAll (A.getD j []) bks[j].values).length = 60 := end_len h hj _
 have hek : ∀ x, x < 60 -> (x ∈ nums bks[j].values \/ ¬ Free bks x j) -> (addAll (A.getD j []) bks[j].values).getD x false = true := by
  intro x hx hh
  rw [addAll_get _ _ _ (fun v hv => by rw [getD_mem60 h.all (by rw [h.len]; exact hj)]; exact hnum _ (List.getElem_mem hj) v hv)]
  rcases hh with hh | hh
  ·exact Or.inr hh
  ·exact Or.inl (h.keeps j hj x hx hh)
 unfold stepB
 simp only
 generalize addAll (A.getD j []) bks[j].values = e at *
 have : ∀ (l : List Nat) (st : Sets × Bool), (∀ t ∈ l, t ∈ tg bks[j].last) -> Good bks st.1 -> Good bks (l.foldl (stepT e) st).1 := by
  intro l
  induction l with
  | nil => intro st _ h; exact h
  | cons t l ih =>
   intro st hl hst
   rw [List.foldl_cons]
   have htg := hl t List.mem_cons_self
   have := hg _ (List.getElem_mem hj) t htg
   exact ih _ (fun x hx => hl x (List.mem_cons_of_mem _ hx)) (step_good (c := st.2) hst hj this.2 this.1 htg he hek)
 exact this _ _ (fun _ h => h) h
theorem passGo_good {bks : List Blk} (hnum : ∀ b ∈ bks, ∀ v ∈ b.values, v.num < 60) (hg : ∀ b ∈ bks, ∀ t ∈ tg b.last, 1 <= t /\ t < bks.length) :
  ∀ (l : List Blk) (j : Nat) (st : Sets × Bool), l = bks.drop j -> Good bks st.1 -> Good bks (passGo l j st).1
 | [], _, _, _, h => h
 | b :: l, j, st, e, h => by
  have hj : j < bks.length := by
   rcases Nat.lt_or_ge j bks.length with h | h
   ·exact h
   ·rw [List.drop_of_length_le h] at e; cases e
  rw [List.drop_eq_getElem_cons hj] at e
  injection e with e1 e2
  unfold passGo
  refine passGo_good hnum hg l (j + 1) _ e2 ?_
  rw [e1]
  exact stepB_good (c := st.2) hnum hg h hj
theorem pass_good {bks : List Blk} (hnum : ∀ b ∈ bks, ∀ v ∈ b.values, v.num < 60) (hg : ∀ b ∈ bks, ∀ t ∈ tg b.last, 1 <= t /\ t < bks.length) {A : Sets} (h : Good bks A) : Good bks (pass bks A).1 :=
 passGo_good hnum hg bks 0 (A, false) rfl h
theorem stepT_same {e : List Bool} {st : Sets × Bool} {t : Nat} (h : (stepT e st t).2 = false) (ht : t < st.1.length) : st.2 = false /\ (stepT e st t).1 = st.1 /\ both (st.1.getD t []) e = st.1.getD t [] := by
 unfold stepT at h ⊢
 simp only [Bool.or_eq_false_iff, Bool.not_eq_false', beq_iff_eq] at h
 refine ⟨h.1, ?_, h.2⟩
 simp only
 rw [h.2]
 apply List.ext_getElem?
 intro i
 by_cases e : i = t
 ·subst e
  rw [List.getElem?_set_self ht, List.getD_eq_getElem?_getD, List.getElem?_eq_getElem ht]; rfl
 ·rw [List.getElem?_set_ne (by omega)]
theorem fold_same (e : List Bool) : ∀ (l : List Nat) (st : Sets × Bool), (∀ t ∈ l, t < st.1.length) -> (l.foldl (stepT e) st).2 = false -> st.2 = false /\ (l.foldl (stepT e) st).1 = st.1 /\ ∀ t ∈ l, both (st.1.getD t []) e = st.1.getD t []
 | [], st, _, h => ⟨h, rfl, by simp⟩
 | t :: l, st, hl, h => by
  rw [List.foldl_cons] at h ⊢
  have hlen : (stepT e st t).1.length = st.1.length := by simp [stepT]
  obtain ⟨h1, h2, h3⟩ := fold_same e l (stepT e st t) (fun x hx => by rw [hlen]; exact hl x (List.mem_cons_of_mem _ hx)) h
  obtain ⟨h4, h5, h6⟩ := stepT_same h1 (hl t List.mem_cons_self)
  refine ⟨h4, by rw [h2, h5], fun x hx => ?_⟩
  rcases List.mem_cons.1 hx with rfl | hx
  ·exact h6
  ·have := h3 x hx
   rw [h5] at this
   exact this
theorem passGo_same {bks : List Blk} (hg : ∀ b ∈ bks, ∀ t ∈ tg b.last, 1 <= t /\ t < bks.length) : ∀ (l : List Blk) (j : Nat) (st : Sets × Bool), l = bks.drop j -> st.1.length = bks.length -> (passGo l j st).2 = false ->
  st.2 = false /\ (passGo l j st).1 = st.1 /\ ∀ k, j <= k -> ∀ h : k < bks.length, ∀ t ∈ tg bks[k].last, both (st.1.getD t []) (addAll (st.1.getD k []) bks[k].values) = st.1.getD t []
 | [], j, st, e, _, h => by
  refine ⟨h, rfl, fun k hk hkl => ?_⟩
  have : bks.length <= j := by
   rcases Nat.lt_or_ge j bks.length with h' | h'
   ·rw [List.drop_eq_getElem_cons h'] at e; cases e
   ·exact h'
  omega
 | b :: l, j, st, e, hlen, h => by
  have hj : j < bks.length := by
   rcases Nat.lt_or_ge j bks.length with h | h
   ·exact h
   ·rw [List.drop_of_length_le h] at e; cases e
  rw [List.drop_eq_getElem_cons hj] at e
  injection e with e1 e2
  subst e1
  unfold passGo at h ⊢
  have hl2 : (stepB st j bks[j]).1.length = bks.length := by
   unfold stepB
   have : ∀ (l : List Nat) (e : List Bool) (st : Sets × Bool), (l.foldl (stepT e) st).1.length = st.1.length := by
    intro l e
    induction l with
    | nil => intro st; rfl
    | cons t l ih => intro st; rw [List.foldl_cons, ih]; simp [stepT]
   rw [this, hlen]
  obtain ⟨h1, h2, h3⟩ := passGo_same hg l (j + 1) (stepB st j bks[j]) e2 hl2 h
  obtain ⟨h4, h5, h6⟩ := fold_same _ (tg bks[j].last) st (fun t ht => by rw [hlen]; exact (hg _ (List.getElem_mem hj) t ht).2) h1
  have hst : (stepB st j bks[j]).1 = st.1 := h5
  rw [hst] at h2 h3
  refine ⟨h4, h2, fun k hk hkl t ht => ?_⟩
  by_cases hkj : k = j
  ·subst hkj; exact h6 t ht
  ·exact h3 k (by omega) hkl t ht
theorem iter_good {bks : List Blk} (hnum : ∀ b ∈ bks, ∀ v ∈ b.values, v.num < 60) (hg : ∀ b ∈ bks, ∀ t ∈ tg b.last, 1 <= t /\ t < bks.length) {A B : Sets} (h : Iter bks A B) (hA : Good bks A) :
  Good bks B /\ ∀ k, ∀ h : k < bks.length, ∀ t ∈ tg bks[k].last, both (B.getD t []) (addAll (B.getD k []) bks[k].values) = B.getD t [] := by
 induction h with
 | @done A hd =>
  obtain ⟨_, h2, h3⟩ := passGo_same hg bks 0 (A, false) rfl hA.len hd
  have e : (pass bks A).1 = A := h2
  rw [e]
  exact ⟨hA, fun k hk => h3 k (Nat.zero_le _) hk⟩
 | more _ _ ih => exact ih (pass_good hnum hg hA)
theorem start_good (bks : List Blk) (hn : 0 < bks.length) : Good bks (startTo bks.length bks.length) := by
 refine ⟨startTo_length _ _, ?_, ?_, ?_⟩
 ·intro R hR
  unfold startTo at hR
  obtain ⟨i, _, rfl⟩ := List.mem_map.1 hR
  split
  ·simp [everyNumber]
  ·simp [noNumber]
 ·intro j hj x hx hf
  have hj0 : j ≠ 0 := by
   rintro rfl
   exact hf Free.start
  have e : (startTo bks.length bks.length).getD j [] = everyNumber := by
   unfold startTo
   rw [List.getD_eq_getElem?_getD, List.getElem?_map, List.getElem?_range hj]
   simp only [Option.map_some, Option.getD_some]
   rw [if_pos ⟨by omega, hj⟩]
  rw [e]
  unfold everyNumber
  rw [List.getD_eq_getElem?_getD, List.getElem?_replicate, if_pos hx]; rfl
 ·unfold startTo
  rw [List.getD_eq_getElem?_getD, List.getElem?_map]
  rw [List.getElem?_range hn]
  simp
theorem iter_iff {bks : List Blk} (hn : 0 < bks.length) (hnum : ∀ b ∈ bks, ∀ v ∈ b.values, v.num < 60) (hg : ∀ b ∈ bks, ∀ t ∈ tg b.last, 1 <= t /\ t < bks.length) {A : Sets} (h : Iter bks (startTo bks.length bks.length) A) (j : Nat) (hj : j < bks.length) (x : Nat) (hx : x < 60) :
  (A.getD j []).getD x false = true ↔ ¬ Free bks x j := by
 obtain ⟨hG, hE⟩ := iter_good hnum hg h (start_good bks hn)
 constructor
 ·intro h1 h2
  have : ∀ j, Free bks x j -> j < bks.length -> (A.getD j []).getD x false = false := by
   intro j hf
   induction hf with
   | start =>
    intro _
    rw [hG.zero]
    unfold noNumber
    rw [List.getD_eq_getElem?_getD, List.getElem?_replicate, if_pos hx]; rfl
   | @step a t ha _ hxa htg ih =>
    intro ht
    have e := hE a ha t htg
    have ih' := ih ha
    cases hc : (A.getD t []).getD x false with
    | false => rfl
    | true =>
     exfalso
     rw [<- e, both_get _ _ x (getD_mem60 hG.all (by rw [hG.len]; exact ht)) (end_len hG ha _)] at hc
     have := (addAll_get _ _ _ (fun v hv => by rw [getD_mem60 hG.all (by rw [hG.len]; exact ha)]; exact hnum _ (List.getElem_mem ha) v hv)).1 hc.2
     rcases this with h | h
     ·rw [ih'] at h; cases h
     ·exact hxa h
  rw [this j h2 hj] at h1
  cases h1
 ·exact hG.keeps j hj x hx
theorem iter_ends (bks : List Blk) (hnum : ∀ b ∈ bks, ∀ v ∈ b.values, v.num < 60) (hg : ∀ b ∈ bks, ∀ t ∈ tg b.last, 1 <= t /\ t < bks.length) : ∀ (n : Nat) (A : Sets), Good bks A -> trues A <= n -> ∃ B, Iter bks A B
 | n, A, hA, hn => by
  cases hd : (pass bks A).2 with
  | false => exact ⟨_, Iter.done hd⟩
  | true =>
   have hal : Along bks.length A (pass bks A) := by
    have : ∀ (l : List Blk) (j : Nat) (st : Sets × Bool), l = bks.drop j -> Along bks.length A st -> Good bks st.1 -> Along bks.length A (passGo l j st) := by
     intro l
     induction l with
     | nil => intro j st _ h _; exact h
     | cons b l ih =>
      intro j st e h hgd
      have hj : j < bks.length := by
       rcases Nat.lt_or_ge j bks.length with h | h
       ·exact h
       ·rw [List.drop_of_length_le h] at e; cases e
      rw [List.drop_eq_getElem_cons hj] at e
      injection e with e1 e2
      subst e1
      unfold passGo
      refine ih (j + 1) _ e2 ?_ (stepB_good (c := st.2) hnum hg hgd hj)
      unfold stepB
      have he : (addAll (st.1.getD j []) bks[j].values).length = 60 := end_len hgd hj _
      generalize addAll (st.1.getD j []) bks[j].values = e at *
      have : ∀ (l : List Nat) (st : Sets × Bool), (∀ t ∈ l, t < bks.length) -> Along bks.length A st -> Along bks.length A (l.foldl (stepT e) st) := by
       intro l
       induction l with
       | nil => intro st _ h; exact h
       | cons t l ih =>
        intro st hl h
        rw [List.foldl_cons]
        exact ih _ (fun x hx => hl x (List.mem_cons_of_mem _ hx)) (h.step he (hl t List.mem_cons_self))
      exact this _ _ (fun t ht => (hg _ (List.getElem_mem hj) t ht).2) h
    exact this bks 0 (A, false) rfl ⟨hA.len, hA.all, Nat.le_refl _, fun h => by cases h⟩ hA
   have hlt := hal.lt hd
   match n, hn with
   | 0, hn => omega
   | n + 1, hn =>
    obtain ⟨B, hB⟩ := iter_ends bks hnum hg n (pass bks A).1 (pass_good hnum hg hA) (by omega)
    exact ⟨B, Iter.more hd hB⟩
end Go.Proofs.YtedkjanogjglkaaGreatDoor.Code
namespace Go.Proofs.YtedkjanogjglkaaGreatDoor.D
open Go.RowKit
namespace Ref
open Go.Proofs.YtedkjanogjglkaaGreatDoor.Ref
def edgesTo (to : Int) (i : Nat) : List Int -> Nat -> List (Int × Int)
 | [], _ => []
 | t :: r, k => if t = to then ((i : Int), (k : Int)) :: edgesTo to i r (k + 1) else edgesTo to i r (k + 1)
def edgesGo (to : Int) : List RBlk -> Nat -> List (Int × Int)
 | [], _ => []
 | b :: t, i => edgesTo to i b.To 0 ++ edgesGo to t (i + 1)
def edges (f : RFunc) (to : Int) : List (Int × Int) := edgesGo to f.Blocks 0
theorem edgesTo_hit {to t : Int} {i k : Nat} {r : List Int} (h : t = to) : edgesTo to i (t :: r) k = ((i : Int), (k : Int)) :: edgesTo to i r (k + 1) := by simp only [edgesTo, if_pos h]
theorem edgesTo_miss {to t : Int} {i k : Nat} {r : List Int} (h : ¬ t = to) : edgesTo to i (t :: r) k = edgesTo to i r (k + 1) := by simp only [edgesTo, if_neg h]
end Ref
namespace Ref
open Go.Proofs.YtedkjanogjglkaaGreatDoor.Ref
def Reach (f : RFunc) (but : Int) (i : Nat) : Prop :=
 ∀ S : Nat -> Prop, S 0 -> (∀ a (h : a < f.Blocks.length) (t : Nat), S a -> (t : Int) ∈ f.Blocks[a].To -> (t : Int) ≠ but -> S t) -> S i
theorem Reach.zero (f : RFunc) (but : Int) : Reach f but 0 := fun _ h0 _ => h0
theorem Reach.step {f : RFunc} {but : Int} {a t : Nat} (h : Reach f but a) (ha : a < f.Blocks.length) (ht : (t : Int) ∈ f.Blocks[a].To) (hb : (t : Int) ≠ but) : Reach f but t :=
 fun S h0 hs => hs a ha t (h S h0 hs) ht hb
end Ref
namespace Ref
open Go.Proofs.YtedkjanogjglkaaGreatDoor.Ref
def placeGo (n : Int) : List RBlk -> Nat -> Int × Int
 | [], _ => (-1, -1)
 | b :: t, i => match b.Values.findIdx? (fun x => x.V == n) with
  | some k => (i, k)
  | none => placeGo n t (i + 1)
def place (f : RFunc) (n : Int) : Int × Int := placeGo n f.Blocks 0
theorem placeGo_skip (n : Int) : ∀ (l : List RBlk) (j i : Nat), (∀ i', i' < j -> ∀ (h : i' < l.length), l[i'].Values.findIdx? (fun x => x.V == n) = none) -> placeGo n l i = placeGo n (l.drop j) (i + j) := by
 intro l
 induction l with
 | nil => intro j i _; simp [placeGo]
 | cons b t ih =>
  intro j i h
  cases j with
  | zero => rfl
  | succ j =>
   have h0 : b.Values.findIdx? (fun x => x.V == n) = none := h 0 (by omega) (by simp)
   have h1 : placeGo n (b :: t) i = placeGo n t (i + 1) := by simp only [placeGo, h0]
   rw [h1, ih j (i + 1) (fun i' hi' hl => h (i' + 1) (by omega) (by simpa using hl)), List.drop_succ_cons]
   congr 1
   omega
theorem place_hit (f : RFunc) (n : Int) (j m : Nat) (hj : j < f.Blocks.length) (h : ∀ i', i' < j -> ∀ (h : i' < f.Blocks.length), f.Blocks[i'].Values.findIdx? (fun x => x.V == n) = none)
  (hm : f.Blocks[j].Values.findIdx? (fun x => x.V == n) = some m) : place f n = ((j : Int), (m : Int)) := by
 unfold place
 rw [placeGo_skip n f.Blocks j 0 h, List.drop_eq_getElem_cons hj]
 simp only [placeGo, hm, Nat.zero_add]
theorem place_miss (f : RFunc) (n : Int) (h : ∀ i', i' < f.Blocks.length -> ∀ (h : i' < f.Blocks.length), f.Blocks[i'].Values.findIdx? (fun x => x.V == n) = none) : place f n = (-1, -1) := by
 unfold place
 rw [placeGo_skip n f.Blocks f.Blocks.length 0 h, List.drop_length]
 rfl
theorem findV_hit (l : List RVal) (n : Int) (m : Nat) (hm : m < l.length) (h : ∀ m', m' < m -> ∀ (h : m' < l.length), ¬ l[m'].V = n) (he : l[m].V = n) : l.findIdx? (fun x => x.V == n) = some m := by
 rw [List.findIdx?_eq_some_iff_getElem]
 refine ⟨hm, by simp [he], fun j hj => ?_⟩
 have := h j hj (by omega)
 simpa using this
theorem findV_miss (l : List RVal) (n : Int) (h : ∀ m', m' < l.length -> ∀ (h : m' < l.length), ¬ l[m'].V = n) : l.findIdx? (fun x => x.V == n) = none := by
 rw [List.findIdx?_eq_none_iff]
 intro x hx
 obtain ⟨i, hi, rfl⟩ := List.getElem_of_mem hx
 simpa using h i hi hi
end Ref
namespace Ref
open Go.Proofs.YtedkjanogjglkaaGreatDoor.Ref
def Made (f : RFunc) (n : Int) (block : Nat) (at_ : Int) : Prop :=
 0 <= (place f n).1 /\ (((place f n).1 = block /\ (place f n).2 < at_) \/ ((place f n).1 ≠ block /\ ¬ ((place f n).1 ≠ 0 /\ Reach f (place f n).1 block)))
end Ref
namespace Ref
open Go.Proofs.YtedkjanogjglkaaGreatDoor.Ref
def UseAt (f : RFunc) (i k : Nat) (op : List UInt8) (n : Int) (j : Nat) : Prop :=
 (op = sPhi -> ∃ (h : j < (edges f i).length) (a : Nat) (ha : a < f.Blocks.length), (edges f i)[j].1 = (a : Int) /\ Made f n a f.Blocks[a].Values.length) /\ (op ≠ sPhi -> Made f n i k)
def ValOk (f : RFunc) (i k : Nat) (x : RVal) : Prop :=
 (x.Op = sPhi -> x.Args.length = (edges f i).length /\ i ≠ 0) /\ ∀ j (h : j < x.Args.length), UseAt f i k x.Op x.Args[j] j
def Uses (f : RFunc) (i : Nat) (hi : i < f.Blocks.length) : Prop :=
 (∀ k (h : k < f.Blocks[i].Values.length), ValOk f i k f.Blocks[i].Values[k]) /\ (Made f f.Blocks[i].V i f.Blocks[i].Values.length \/ f.Blocks[i].Last = sJump)
end Ref
end Go.Proofs.YtedkjanogjglkaaGreatDoor.D
