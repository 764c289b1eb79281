/-
  Parts of the proof: RRew, RRight2.
-/
import Derived.Test.YtedkjanogjglkaaGreatDoorP24
import Derived.Recover
import Derived.BigQuiet
import Derived.Test.YtedkjanogjglkaaGreatDoorP04
import Derived.Test.YtedkjanogjglkaaGreatDoorP07
import Derived.Test.YtedkjanogjglkaaGreatDoorP01
import Derived.Test.YtedkjanogjglkaaGreatDoorP03
import Derived.Test.YtedkjanogjglkaaGreatDoorP02
import Derived.Deep.RegionHeld3
import Derived.Test.YtedkjanogjglkaaGreatDoorP08
import Derived.Test.YtedkjanogjglkaaGreatDoorP10
import Derived.Test.YtedkjanogjglkaaGreatDoorP20
import Derived.Test.YtedkjanogjglkaaGreatDoorP21
import Derived.Deep.MidRow
import Derived.OwnWalk
import Derived.Test.YtedkjanogjglkaaGreatDoorP13
set_option maxRecDepth 100000
set_option maxHeartbeats 8000000
namespace Go.Proofs.YtedkjanogjglkaaGreatDoor
open Go.RowKit
open Go.Proofs.YtedkjanogjglkaaGreatDoor.Code (RTree Nm RSt Prs CRule Pair)
theorem cell_lt {w : World} {b o : Nat} {v : Value} (h : w.cell? ⟨b, o, none⟩ = some v) : b < w.heap.size := by
 cases hh : w.heap[b]? with
 | none => simp [World.cell?, hh] at h
 | some ob => exact lt_of_block hh
theorem cell_below {w w' : World} {b o : Nat} {v : Value} (h : w.cell? ⟨b, o, none⟩ = some v) (hb : Below w.heap.size w w') : w'.cell? ⟨b, o, none⟩ = some v := by
 have h2 := hb.block b (cell_lt h)
 simpa [World.cell?, h2] using h
theorem RwS.below {w w' : World} {bx gp i : Nat} {O : Obj} {v0 v1 v2 v3 v4 : Value} (h : w.heap[bx]? = some O /\ w.cell? ⟨gp, i, none⟩ = some v0 /\ w.cell? ⟨gp, i + 1, none⟩ = some v1 /\ w.cell? ⟨gp, i + 2, none⟩ = some v2 /\ w.cell? ⟨gp, i + 3, none⟩ = some v3 /\ w.cell? ⟨gp, i + 4, none⟩ = some v4) (hb : Below w.heap.size w w') :
  w'.heap[bx]? = some O /\ w'.cell? ⟨gp, i, none⟩ = some v0 /\ w'.cell? ⟨gp, i + 1, none⟩ = some v1 /\ w'.cell? ⟨gp, i + 2, none⟩ = some v2 /\ w'.cell? ⟨gp, i + 3, none⟩ = some v3 /\ w'.cell? ⟨gp, i + 4, none⟩ = some v4 :=
 ⟨(hb.block _ (lt_of_block h.1)).trans h.1, cell_below h.2.1 hb, cell_below h.2.2.1 hb, cell_below h.2.2.2.1 hb, cell_below h.2.2.2.2.1 hb, cell_below h.2.2.2.2.2 hb⟩
theorem RwS.set {w : World} {bx gp i : Nat} {O : Obj} {v0 v1 v2 v3 v4 : Value} (h : w.heap[bx]? = some O /\ w.cell? ⟨gp, i, none⟩ = some v0 /\ w.cell? ⟨gp, i + 1, none⟩ = some v1 /\ w.cell? ⟨gp, i + 2, none⟩ = some v2 /\ w.cell? ⟨gp, i + 3, none⟩ = some v3 /\ w.cell? ⟨gp, i + 4, none⟩ = some v4) {g q' : Nat} {u : Value} (h1 : bx ≠ g) (h2 : gp ≠ g) :
  (w.setCell ⟨g, q', none⟩ u).heap[bx]? = some O /\ (w.setCell ⟨g, q', none⟩ u).cell? ⟨gp, i, none⟩ = some v0 /\ (w.setCell ⟨g, q', none⟩ u).cell? ⟨gp, i + 1, none⟩ = some v1 /\ (w.setCell ⟨g, q', none⟩ u).cell? ⟨gp, i + 2, none⟩ = some v2 /\ (w.setCell ⟨g, q', none⟩ u).cell? ⟨gp, i + 3, none⟩ = some v3 /\ (w.setCell ⟨g, q', none⟩ u).cell? ⟨gp, i + 4, none⟩ = some v4 :=
 ⟨stay_set h.1 h1, cell_stay h.2.1 h2, cell_stay h.2.2.1 h2, cell_stay h.2.2.2.1 h2, cell_stay h.2.2.2.2.1 h2, cell_stay h.2.2.2.2.2 h2⟩
theorem rewrite_any (args : Nat) (rules : List CRule) (picks : List Int) (bks out : List Code.Blk) (m : Nat) (er : Int) (rsv pv : Value) (p : Option Addr) (c : Nat) (w : World) (hr : RepRules w 0 rsv rules) (hrl : rules.length <= 3000) (hR : ∀ R ∈ rules, RuleIn R) (hp : PicksAt w pv picks) (hin : ∀ p ∈ picks, -9223372036854775808 <= p /\ p <= 9223372036854775807) (hf : RepBlks w 0 (.slice p bks.length c) bks) (hfine : Code.Fine bks) (ha : args < 1000) (hi : TabI w) (ht : Tab w) (hrew : Code.RewS args rules picks 0 bks out m er) (hm : m <= 1000000) :
  Calls Tryz.prog 38 #[rsv, .agg #[.int .i64 (args : Nat), .slice p bks.length c], pv] w fun e w' => ∃ p' c', e = .returned (.tuple #[.agg #[.int .i64 (args : Nat), .slice p' out.length c'], .int .i64 (m : Nat), .int .i64 er]) /\ RepBlks w' 0 (.slice p' out.length c') out /\ Below w.heap.size w w' := by
 have HAP : Hid (∀ B q d w1, Below w.heap.size w w1 -> RepBlks w1 0 (.slice q B.length d) B -> Code.Fine B -> Calls Tryz.prog 76 #[rsv, .agg #[.int .i64 (args : Nat), .slice q B.length d]] w1 fun e w' => ∃ pv cs, e = .returned pv /\ w'.ownsRow 0 151 5 pv (Code.pairs rules B).length cs /\ PairCs w1 cs (Code.pairs rules B) /\ Below w1.heap.size w1 w') := hide fun B q d w1 h1 hB hF => by
  have h := allPairs_any args B rules rsv q d w1 (hr.below h1) hrl hR hB hF.good
  rw [Code.pairsC_is hF.once (fun R hR' => (hR R hR').ok)] at h
  exact h
 have HPK : Hid (∀ k n w1, Below w.heap.size w w1 -> 0 < n -> n <= 1000000000 -> Calls Tryz.prog 78 #[pv, .int .i64 (k : Nat), .int .i64 (n : Nat)] w1 fun e w' => e = .returned (.int .i64 (Code.pickN picks k n : Nat)) /\ w' = w1) := hide fun k n w1 h1 hn hn' => picked_any picks pv k n w1 (hp.below h1) hin hn hn'
 have HPL : Hid (∀ B : List Code.Blk, Code.Fine B -> (Code.pairs rules B).length <= 100000000) := hide fun B hF => by
  rw [<- Code.pairsC_is hF.once (fun R hR' => (hR R hR').ok)]
  have h1 := Code.blkPairs_le (fun v r => (Code.fitC B v r).isSome) rules B 0 hF.good.short
  have h2 := hF.good.few
  have h3 : B.length * (1000 * rules.length) <= 8 * (1000 * 3000) := Nat.mul_le_mul h2 (Nat.mul_le_mul_left _ hrl)
  unfold Code.pairsC
  omega
 have HST : Hid (∀ B q d rk sv rv w1 (pr : Pair), Below w.heap.size w w1 -> RepBlks w1 0 (.slice q B.length d) B -> Code.Fine B -> RepR w1 0 pr.rule rk sv rv -> pr ∈ Code.pairs rules B -> Calls Tryz.prog 77 #[.agg #[.int .i64 (args : Nat), .slice q B.length d], .agg #[.int .i64 (pr.block : Nat), .int .i64 (pr.index : Nat), .int .i64 (rk : Nat), sv, rv]] w1 fun e w' => StepPost args (Code.stepR args B pr) w1 e w') := hide fun B q d rk sv rv w1 pr h1 hB hF hrr hmem => by
  obtain ⟨hmr, b, v, kn, e1, e2, e3⟩ := Code.mem_pairs hmem
  exact stepR_any args B pr q d rk sv rv b v kn w1 hB hF hrr (hR _ hmr) e1 e2 e3 ha (hi.below h1) (ht.below h1)
 have HNF : Hid (∀ B n pr, Code.Fine B -> pr ∈ Code.pairs rules B -> Code.stepR args B pr = some n -> Code.Fine n) := hide fun B n pr hF hmem hs => Code.stepR_fine hF (hR _ (Code.mem_pairs hmem).1).ok hs
 have HF := hide hf
 have HFI := hide hfine
 have HRW := hide hrew
 obtain ⟨rcs, hrown, _⟩ := hr
 obtain ⟨rp, rc, rfl⟩ := own_slice hrown
 obtain ⟨pp, pc, rfl, _⟩ := hp
 clear hf hfine hrew hR hin hi ht hrown
 go_enter Tryz.func38, Tryz.ntmps38
 go_wp2_with fail
 have hb0 : Below w.heap.size w ((w.alloc (.cells #[.int .i64 (args : Nat), .slice p bks.length c] 78)).alloc (.cells #[.int .i64 0, .slice none 0 0] 78)) := below_al (below_al (Below.refl _ _) _) _
 have hx0 : ((w.alloc (.cells #[.int .i64 (args : Nat), .slice p bks.length c] 78)).alloc (.cells #[.int .i64 0, .slice none 0 0] 78)).heap[w.heap.size]? = some (.cells #[.int .i64 (args : Nat), .slice p bks.length c] 78) := stay_alloc (heap_alloc_new w _)
 have hx1 := heap_alloc_new (w.alloc (.cells #[.int .i64 (args : Nat), .slice p bks.length c] 78)) (.cells #[.int .i64 0, .slice none 0 0] 78)
 rw [alloc_size] at hx1
 generalize (w.alloc (.cells #[.int .i64 (args : Nat), .slice p bks.length c] 78)).alloc (.cells #[.int .i64 0, .slice none 0 0] 78) = w0 at *
 go_loopw [9] (fun i wr => ∃ (k : Nat) (B : List Code.Blk) (q : Option Addr) (d : Nat), i = .int .i64 k /\ k <= m /\ wr.heap[w.heap.size]? = some (.cells #[.int .i64 (args : Nat), .slice q B.length d] 78) /\ wr.heap[w.heap.size + 1]? = some (.cells #[.int .i64 0, .slice none 0 0] 78) /\ Hid (RepBlks wr 0 (.slice q B.length d) B) /\ Hid (Code.Fine B) /\ Hid (Code.RewS args rules picks k B out m er) /\ Below w.heap.size w wr) (fun i _ => m - (intOf i).toNat)
 case atStart => exact ⟨0, bks, p, c, rfl, by omega, hx0, hx1, hide (HF.out.below hb0), HFI, HRW, hb0⟩
 case round =>
  obtain ⟨k, B, q, d, rfl, hkm, hbx, hrs, HB, HFB, HR, hbw⟩ := hrel
  clear hx0 hx1 hb0
  have q0 := blk_cell hbx 0 _ rfl
  have q1 := blk_cell hbx 1 _ rfl
  have hl0 := lt_of_block hbx
  have hl1 := lt_of_block hrs
  go_wp2_with fail
  refine (HAP.out B q d wr hbw HB.out HFB.out).mono ?_
  rintro e w1 ⟨prv, cs, rfl, hprs, hpcs, hb1⟩
  have hbx1 := (hb1.block _ hl0).trans hbx
  have hrs1 := (hb1.block _ hl1).trans hrs
  have hbw1 := hbw.trans (hb1.mono hbw.size)
  have HB1 := hide (HB.out.below hb1)
  have HPCS : Hid (PairCs w1 cs (Code.pairs rules B)) := hide fun i hi => by
   obtain ⟨a, b, c, h1, h2, h3, h4, h5, h6⟩ := hpcs i hi
   exact ⟨a, b, c, h1, h2, h3, h4, h5, h6.kept (keeps_below hb1) (Nat.le_refl _)⟩
  have hpl := HPL.out B HFB.out
  have HPR := hide hprs
  obtain ⟨pp1, pc1, rfl⟩ := own_slice hprs
  clear q0 q1 hbx hrs hbw HB hpcs hprs hb1 hl0 hl1
  have q0 := blk_cell hbx1 0 _ rfl
  have q1 := blk_cell hbx1 1 _ rfl
  have r0 := blk_cell hrs1 0 _ rfl
  have r1 := blk_cell hrs1 1 _ rfl
  have z0 := blk_froz hrs1 0
  have z1 := blk_froz hrs1 1
  rcases HR.out.cases with ⟨hnil, hout, hmk, her⟩ | ⟨pr, hne, hpr, hcase⟩
  ·have hlen : (Code.pairs rules B).length = 0 := by rw [hnil]; rfl
   subst hout hmk her
   rw [hlen]
   clear hnil hlen
   go_wp2
   have hres := set_block (o := 1) (v := .slice q out.length d) (set_block (o := 0) (v := .int .i64 (args : Nat)) hrs1)
   refine bodyPost_ret (v := .tuple #[.agg #[.int .i64 (args : Nat), .slice q out.length d], .int .i64 (m : Nat), .int .i64 0]) ?_ rfl ?_
   ·have d0 := blk_cell hres 0 (.int .i64 (args : Nat)) rfl
    have d1 := blk_cell hres 1 (.slice q out.length d) rfl
    simp [results, Tryz.results38, go_sem, d0, d1]
   ·exact ⟨_, _, rfl, (HB1.out.set hrs1 (by decide) (by decide) (by decide)).set (set_block hrs1) (by decide) (by decide) (by decide), below_set (below_set hbw1 (by omega) _ _) (by omega) _ _⟩
  ·have hn0 : 0 < (Code.pairs rules B).length := List.length_pos_iff.2 hne
   have hnz : ¬ ((Code.pairs rules B).length : Int) = 0 := by omega
   have hnz' : (((Code.pairs rules B).length : Int) == 0) = false := beq_eq_false_iff_ne.2 hnz
   have hmem : pr ∈ Code.pairs rules B := List.mem_of_getElem? hpr
   have hixl := Code.pickN_lt (picks := picks) (k := k) hn0
   have hpe : (Code.pairs rules B)[Code.pickN picks k (Code.pairs rules B).length] = pr := by
    rw [List.getElem?_eq_getElem hixl] at hpr
    exact Option.some.inj hpr
   obtain ⟨rk, sv, rv, e0, e1, e2, e3, e4, hrr⟩ := HPCS.out _ hixl
   rw [hpe] at e0 e1 hrr
   obtain ⟨gp, cp', hv', _, hgp, hgc⟩ := row_open HPR.out hn0
   simp only [Value.slice.injEq] at hv'
   obtain ⟨rfl, _, rfl⟩ := hv'
   have c0 := hgc _ _ e0
   have c1 := hgc _ _ e1
   have c2 := hgc _ _ e2
   have c3 := hgc _ _ e3
   have c4 := hgc _ _ e4
   generalize hix : Code.pickN picks k (Code.pairs rules B).length = ix at *
   have HIX := hide hix
   have hixl' : (ix : Int) < ((Code.pairs rules B).length : Int) := by omega
   obtain ⟨T2, x2, rfl⟩ := hrr.2.1.shape
   obtain ⟨k', kids', hnode, hke, _, sp, sn, sc, rfl⟩ := hrr.1.op_eq
   have HSTW : Hid (∀ w2, Below w1.heap.size w1 w2 -> Calls Tryz.prog 77 #[.agg #[.int .i64 (args : Nat), .slice q B.length d], .agg #[.int .i64 (pr.block : Nat), .int .i64 (pr.index : Nat), .int .i64 (rk : Nat), .slice sp sn sc, .iface T2 x2]] w2 fun e w' => StepPost args (Code.stepR args B pr) w2 e w') := hide fun w2 h2 => HST.out B q d rk _ _ w2 pr (hbw1.trans (h2.mono hbw1.size)) (HB1.out.below h2) HFB.out (hrr.kept (keeps_below h2) (Nat.le_refl _)) hmem
   clear hix hpr e0 e1 e2 e3 e4 hgc hpe hrr hnode hke HPR HPCS hne
   go_wp2_with fail
   clear hnz hnz' q0 q1 r0 r1 z0 z1
   have hSwd : w1.drew.heap[w.heap.size]? = some (.cells #[.int .i64 (args : Nat), .slice q B.length d] 78) /\ w1.drew.cell? ⟨gp, ix * 5, none⟩ = some (.int .i64 (pr.block : Nat)) /\ w1.drew.cell? ⟨gp, ix * 5 + 1, none⟩ = some (.int .i64 (pr.index : Nat)) /\ w1.drew.cell? ⟨gp, ix * 5 + 2, none⟩ = some (.int .i64 (rk : Nat)) /\ w1.drew.cell? ⟨gp, ix * 5 + 3, none⟩ = some (.slice sp sn sc) /\ w1.drew.cell? ⟨gp, ix * 5 + 4, none⟩ = some (.iface T2 x2) := ⟨hbx1, c0, c1, c2, c3, c4⟩
   refine wp_region_held_drew (S := fun w' => w'.heap[w.heap.size]? = some (.cells #[.int .i64 (args : Nat), .slice q B.length d] 78) /\ w'.cell? ⟨gp, ix * 5, none⟩ = some (.int .i64 (pr.block : Nat)) /\ w'.cell? ⟨gp, ix * 5 + 1, none⟩ = some (.int .i64 (pr.index : Nat)) /\ w'.cell? ⟨gp, ix * 5 + 2, none⟩ = some (.int .i64 (rk : Nat)) /\ w'.cell? ⟨gp, ix * 5 + 3, none⟩ = some (.slice sp sn sc) /\ w'.cell? ⟨gp, ix * 5 + 4, none⟩ = some (.iface T2 x2)) (by kernel_rfl) ⟨hbx1, c0, c1, c2, c3, c4⟩ (fun hHeld => ?_)
   have hbwwd : Below w.heap.size w w1.drew := hbw1.drew
   have hrswd : w1.drew.heap[w.heap.size + 1]? = some (.cells #[.int .i64 0, .slice none 0 0] 78) := hrs1
   have HBd : Hid (RepBlks w1.drew 0 (.slice q B.length d) B) := hide HB1.out
   have HSTD : Hid (∀ w2, Below w1.drew.heap.size w1.drew w2 -> Calls Tryz.prog 77 #[.agg #[.int .i64 (args : Nat), .slice q B.length d], .agg #[.int .i64 (pr.block : Nat), .int .i64 (pr.index : Nat), .int .i64 (rk : Nat), .slice sp sn sc, .iface T2 x2]] w2 fun e w' => StepPost args (Code.stepR args B pr) w2 e w') := hide fun w2 h2 => HSTW.out w2 (undrewB h2)
   generalize w1.drew = wd at *
   clear hbx1 hrs1 c0 c1 c2 c3 c4 hHeld hbw1 HB1 HSTW
   refine wpAnyH_take (i := 0) (v := .agg #[.int .i64 (args : Nat), .slice q B.length d]) rfl (by kernel_rfl) (by kernel_rfl) (by kernel_rfl) (fun _ _ _ h => h) (Or.inl ⟨by rfl, fun w' h => by have r0 := blk_cell h.1 0 _ rfl; have r1 := blk_cell h.1 1 _ rfl; go_simp⟩) hSwd ?_
   try simp only [Act.put, zz]
   refine wpAnyH_take (i := 1) (v := .slice (some ⟨gp, 0, none⟩) (Code.pairs rules B).length pc1) rfl (by kernel_rfl) (by kernel_rfl) (by kernel_rfl) (fun _ _ _ h => h) (Or.inl ⟨by rfl, fun w' h => by  go_simp⟩) hSwd ?_
   try simp only [Act.put, zz]
   refine wpAnyH_take (i := 2) (v := .slice pp picks.length pc) rfl (by kernel_rfl) (by kernel_rfl) (by kernel_rfl) (fun _ _ _ h => h) (Or.inl ⟨by rfl, fun w' h => by  go_simp⟩) hSwd ?_
   try simp only [Act.put, zz]
   refine wpAnyH_take (i := 3) (v := .int .i64 (k : Nat)) rfl (by kernel_rfl) (by kernel_rfl) (by kernel_rfl) (fun _ _ _ h => h) (Or.inl ⟨by rfl, fun w' h => by  go_simp⟩) hSwd ?_
   try simp only [Act.put, zz]
   refine wpAnyH_take (i := 4) (v := .slice (some ⟨gp, 0, none⟩) (Code.pairs rules B).length pc1) rfl (by kernel_rfl) (by kernel_rfl) (by kernel_rfl) (fun _ _ _ h => h) (Or.inl ⟨by rfl, fun w' h => by  go_simp⟩) hSwd ?_
   try simp only [Act.put, zz]
   refine wpAnyH_take (i := 5) (v := .int .i64 ((Code.pairs rules B).length : Nat)) rfl (by kernel_rfl) (by kernel_rfl) (by kernel_rfl) (fun _ _ _ h => h) (Or.inl ⟨by rfl, fun w' h => by  go_simp⟩) hSwd ?_
   try simp only [Act.put, zz]
   rcases hcase with ⟨hst, hout, hmk, her⟩ | ⟨n, hst, hnx⟩
   ·have HSTP : Hid (∀ w2, Below w.heap.size w w2 -> Below wd.heap.size wd w2 -> Calls Tryz.prog 77 #[.agg #[.int .i64 (args : Nat), .slice q B.length d], .agg #[.int .i64 (pr.block : Nat), .int .i64 (pr.index : Nat), .int .i64 (rk : Nat), .slice sp sn sc, .iface T2 x2]] w2 fun e w' => Below w2.heap.size w2 w' /\ ∃ p' m' c', e = .returned (.tuple #[.agg #[.int .i64 (args : Nat), .slice p' m' c'], .bool false])) := hide fun w2 _ h2 => (HSTD.out w2 h2).mono fun e w' h => by
     rw [hst] at h
     obtain ⟨h1, h3 | ⟨p', m', c', _, he⟩⟩ := h
     ·obtain ⟨_, _, _, h, _⟩ := h3; cases h
     ·exact ⟨h1, p', m', c', he⟩
    have HOUT : Hid (out = B /\ m = k /\ er = 9) := hide ⟨hout, hmk, her⟩
    clear hst hout hmk her HSTD
    refine wpAnyH_ready (rs := [6, 13]) (by kernel_rfl) (by simp) ?_
    refine AllReadyH.cons rfl (fun K hK => ?_) (AllReadyH.cons rfl (fun K hK => ?_) AllReadyH.nil)
    ·rw [if_pos (by rfl)]
     go_wp2_with fail
     refine (HPK.out k _ _ hbwwd hn0 (by omega)).mono ?_
     rintro e w3 ⟨rfl, h3⟩
     have h3s := h3.symm
     subst h3s
     rw [HIX.out]
     refine hK.out _ _ hSwd (fun hHeld => ?_)
     clear hK K
     try simp only [Act.put, zz]
     refine wpAnyH_take (i := 7) (v := .pointer (some ⟨gp, ix * 5, none⟩)) rfl (by kernel_rfl) (by kernel_rfl) (by kernel_rfl) (fun _ _ _ h => h) (Or.inl ⟨by rfl, fun w' h => by  go_simp⟩) hSwd ?_
     try simp only [Act.put, zz]
     refine wpAnyH_take (i := 8) (v := .agg #[.int .i64 (pr.block : Nat), .int .i64 (pr.index : Nat), .int .i64 (rk : Nat), .slice sp sn sc, .iface T2 x2]) rfl (by kernel_rfl) (by kernel_rfl) (by kernel_rfl) (fun _ _ _ h => h) (Or.inl ⟨by rfl, fun w' h => by obtain ⟨_, r0, r1, r2, r3, r4⟩ := h; go_simp⟩) hSwd ?_
     try simp only [Act.put, zz]
     refine wpAnyH_ready (rs := [9, 13]) (by kernel_rfl) (by simp) ?_
     refine AllReadyH.cons rfl (fun K hK => ?_) (AllReadyH.cons rfl (fun K hK => ?_) AllReadyH.nil)
     ·rw [if_pos (by rfl)]
      go_wp2_with fail
      refine (HSTP.out wd hbwwd (by exact Below.refl _ _)).mono ?_
      rintro e we ⟨hbs, hend⟩
      have hSwe := RwS.below hSwd hbs
      have hbwwe := hbwwd.trans (hbs.mono hbwwd.size)
      have hrswe := (hbs.block _ (lt_of_block hrswd)).trans hrswd
      have HB1we := hide (HBd.out.below hbs)
      obtain ⟨p', m', c', rfl⟩ : ∃ p' m' c', e = .returned (.tuple #[.agg #[.int .i64 (args : Nat), .slice p' m' c'], .bool false]) := hend
      have hrepwe := HB1we.out
      refine hK.out _ _ hSwe (fun hHeld => ?_)
      clear hK K
      try simp only [Act.put, zz]
      refine wpAnyH_take (i := 10) (v := .tuple #[.agg #[.int .i64 (args : Nat), .slice p' m' c'], .bool false]) rfl (by kernel_rfl) (by kernel_rfl) (by kernel_rfl) (fun _ _ _ h => h) (Or.inl ⟨by rfl, fun w' h => by  go_simp⟩) hSwe ?_
      try simp only [Act.put, zz]
      refine wpAnyH_take (i := 11) (v := .agg #[.int .i64 (args : Nat), .slice p' m' c']) rfl (by kernel_rfl) (by kernel_rfl) (by kernel_rfl) (fun _ _ _ h => h) (Or.inl ⟨by rfl, fun w' h => by  go_simp⟩) hSwe ?_
      try simp only [Act.put, zz]
      refine wpAnyH_take (i := 12) (v := .bool false) rfl (by kernel_rfl) (by kernel_rfl) (by kernel_rfl) (fun _ _ _ h => h) (Or.inl ⟨by rfl, fun w' h => by  go_simp⟩) hSwe ?_
      try simp only [Act.put, zz]
      refine wpAnyH_ready (rs := [13]) (by kernel_rfl) (by simp) ?_
      refine AllReadyH.cons rfl (fun K hK => ?_) AllReadyH.nil
      rw [if_pos (by rfl)]
      go_wp2_with fail
      have hba := below_al (Below.refl we.heap.size we) (.cells #[.int .i64 0, .slice none 0 0] 78)
      have hSwz := RwS.below hSwe hba
      have hbwwz := hbwwe.trans (hba.mono hbwwe.size)
      have hrswz := (hba.block _ (lt_of_block hrswe)).trans hrswe
      have hgawz := heap_alloc_new we (.cells #[.int .i64 0, .slice none 0 0] 78)
      have hgag : w.heap.size + 1 < we.heap.size := lt_of_block hrswe
      have hrepwz := hrepwe.below hba
      have hgpa : gp < we.heap.size := cell_lt hSwe.2.1
      generalize we.alloc (.cells #[.int .i64 0, .slice none 0 0] 78) = wz at *
      generalize we.heap.size = ga at *
      refine hK.out _ _ hSwz (fun hHeld => ?_)
      clear hK K
      try simp only [Act.put, zz]
      have q0 := blk_cell hgawz 0 _ rfl
      have q1 := blk_cell hgawz 1 _ rfl
      have z0 := blk_froz hgawz 0
      have z1 := blk_froz hgawz 1
      refine wpAnyH_ready (rs := [14]) (by kernel_rfl) (by simp) ?_
      refine AllReadyH.cons rfl (fun K hK => ?_) AllReadyH.nil
      rw [if_pos (by rfl)]
      go_wp2_with fail
      have hSE := RwS.set (RwS.set hSwz (q' := 0) (u := .int .i64 (args : Nat)) (g := ga) (by omega) (by omega)) (q' := 1) (u := .slice p' m' c') (g := ga) (by omega) (by omega)
      have hrsE := stay_set (a := ⟨ga, 1, none⟩) (v := .slice p' m' c') (stay_set (a := ⟨ga, 0, none⟩) (v := .int .i64 (args : Nat)) hrswz (show w.heap.size + 1 ≠ ga by omega)) (show w.heap.size + 1 ≠ ga by omega)
      have hrepE := (hrepwz.set (o := 0) (u := .int .i64 (args : Nat)) hgawz (by decide) (by decide) (by decide)).set (o := 1) (u := .slice p' m' c') (set_block hgawz) (by decide) (by decide) (by decide)
      have hbwE : Below w.heap.size w ((wz.setCell ⟨ga, 0, none⟩ (.int .i64 (args : Nat))).setCell ⟨ga, 1, none⟩ (.slice p' m' c')) := below_set (below_set hbwwz (by omega) _ _) (by omega) _ _
      generalize (wz.setCell ⟨ga, 0, none⟩ (.int .i64 (args : Nat))).setCell ⟨ga, 1, none⟩ (.slice p' m' c') = wE at *
      refine hK.out _ _ hSE (fun hHeld => ?_)
      clear hK K
      try simp only [Act.put, zz]
      refine wpAnyH_take (i := 15) (v := .bool false) rfl (by kernel_rfl) (by kernel_rfl) (by kernel_rfl) (fun _ _ _ h => h) (Or.inl ⟨by rfl, fun w' h => by  go_simp⟩) hSE ?_
      try simp only [Act.put, zz]
      refine wpAnyH_done (by kernel_rfl) ?_ _
      have hbxE := hSE.1
      have b0 := blk_cell hbxE 0 _ rfl
      have b1 := blk_cell hbxE 1 _ rfl
      have y0 := blk_froz hrsE 0
      have y1 := blk_froz hrsE 1
      have v0 := blk_cell hrsE 0 _ rfl
      have v1 := blk_cell hrsE 1 _ rfl
      clear q0 q1 z0 z1
      go_wp2
      have hres := set_block (o := 1) (v := .slice q B.length d) (set_block (o := 0) (v := .int .i64 (args : Nat)) hrsE)
      refine bodyPost_ret (v := .tuple #[.agg #[.int .i64 (args : Nat), .slice q B.length d], .int .i64 (k : Nat), .int .i64 9]) ?_ rfl ?_
      ·have d0 := blk_cell hres 0 (.int .i64 (args : Nat)) rfl
       have d1 := blk_cell hres 1 (.slice q B.length d) rfl
       simp [results, Tryz.results38, go_sem, d0, d1]
      ·rw [HOUT.out.1, HOUT.out.2.1, HOUT.out.2.2]
       exact ⟨_, _, rfl, (hrepE.set hrsE (by decide) (by decide) (by decide)).set (set_block hrsE) (by decide) (by decide) (by decide), below_set (below_set hbwE (by omega) _ _) (by omega) _ _⟩
     ·rw [if_pos (by rfl)]
      go_wp2_with fail
      have hba := below_al (Below.refl wd.heap.size wd) (.cells #[.int .i64 0, .slice none 0 0] 78)
      have hSwf := RwS.below hSwd hba
      have hbwwf := hbwwd.trans (hba.mono hbwwd.size)
      have hrswf := (hba.block _ (lt_of_block hrswd)).trans hrswd
      have hgawf := heap_alloc_new wd (.cells #[.int .i64 0, .slice none 0 0] 78)
      have hgag : w.heap.size + 1 < wd.heap.size := lt_of_block hrswd
      have HB1wf := hide (HBd.out.below hba)
      have hdf := hba
      have hgpa : gp < wd.heap.size := cell_lt hSwd.2.1
      generalize wd.alloc (.cells #[.int .i64 0, .slice none 0 0] 78) = wf at *
      generalize wd.heap.size = ga at *
      refine hK.out _ _ hSwf (fun hHeld => ?_)
      clear hK K
      try simp only [Act.put, zz]
      refine wpAnyH_ready (rs := [9]) (by kernel_rfl) (by simp) ?_
      refine AllReadyH.cons rfl (fun K hK => ?_) AllReadyH.nil
      rw [if_pos (by rfl)]
      go_wp2_with fail
      refine (HSTP.out wf hbwwf (by exact hdf)).mono ?_
      rintro e we ⟨hbs, hend⟩
      have hSwe := RwS.below hSwf hbs
      have hbwwe := hbwwf.trans (hbs.mono hbwwf.size)
      have hrswe := (hbs.block _ (lt_of_block hrswf)).trans hrswf
      have hgawe := (hbs.block _ (lt_of_block hgawf)).trans hgawf
      have HB1we := hide (HB1wf.out.below hbs)
      obtain ⟨p', m', c', rfl⟩ : ∃ p' m' c', e = .returned (.tuple #[.agg #[.int .i64 (args : Nat), .slice p' m' c'], .bool false]) := hend
      have hrepwe := HB1we.out
      refine hK.out _ _ hSwe (fun hHeld => ?_)
      clear hK K
      try simp only [Act.put, zz]
      refine wpAnyH_take (i := 10) (v := .tuple #[.agg #[.int .i64 (args : Nat), .slice p' m' c'], .bool false]) rfl (by kernel_rfl) (by kernel_rfl) (by kernel_rfl) (fun _ _ _ h => h) (Or.inl ⟨by rfl, fun w' h => by  go_simp⟩) hSwe ?_
      try simp only [Act.put, zz]
      refine wpAnyH_take (i := 11) (v := .agg #[.int .i64 (args : Nat), .slice p' m' c']) rfl (by kernel_rfl) (by kernel_rfl) (by kernel_rfl) (fun _ _ _ h => h) (Or.inl ⟨by rfl, fun w' h => by  go_simp⟩) hSwe ?_
      try simp only [Act.put, zz]
      refine wpAnyH_take (i := 12) (v := .bool false) rfl (by kernel_rfl) (by kernel_rfl) (by kernel_rfl) (fun _ _ _ h => h) (Or.inl ⟨by rfl, fun w' h => by  go_simp⟩) hSwe ?_
      try simp only [Act.put, zz]
      have q0 := blk_cell hgawe 0 _ rfl
      have q1 := blk_cell hgawe 1 _ rfl
      have z0 := blk_froz hgawe 0
      have z1 := blk_froz hgawe 1
      refine wpAnyH_ready (rs := [14]) (by kernel_rfl) (by simp) ?_
      refine AllReadyH.cons rfl (fun K hK => ?_) AllReadyH.nil
      rw [if_pos (by rfl)]
      go_wp2_with fail
      have hSE := RwS.set (RwS.set hSwe (q' := 0) (u := .int .i64 (args : Nat)) (g := ga) (by omega) (by omega)) (q' := 1) (u := .slice p' m' c') (g := ga) (by omega) (by omega)
      have hrsE := stay_set (a := ⟨ga, 1, none⟩) (v := .slice p' m' c') (stay_set (a := ⟨ga, 0, none⟩) (v := .int .i64 (args : Nat)) hrswe (show w.heap.size + 1 ≠ ga by omega)) (show w.heap.size + 1 ≠ ga by omega)
      have hrepE := (hrepwe.set (o := 0) (u := .int .i64 (args : Nat)) hgawe (by decide) (by decide) (by decide)).set (o := 1) (u := .slice p' m' c') (set_block hgawe) (by decide) (by decide) (by decide)
      have hbwE : Below w.heap.size w ((we.setCell ⟨ga, 0, none⟩ (.int .i64 (args : Nat))).setCell ⟨ga, 1, none⟩ (.slice p' m' c')) := below_set (below_set hbwwe (by omega) _ _) (by omega) _ _
      generalize (we.setCell ⟨ga, 0, none⟩ (.int .i64 (args : Nat))).setCell ⟨ga, 1, none⟩ (.slice p' m' c') = wE at *
      refine hK.out _ _ hSE (fun hHeld => ?_)
      clear hK K
      try simp only [Act.put, zz]
      refine wpAnyH_take (i := 15) (v := .bool false) rfl (by kernel_rfl) (by kernel_rfl) (by kernel_rfl) (fun _ _ _ h => h) (Or.inl ⟨by rfl, fun w' h => by  go_simp⟩) hSE ?_
      try simp only [Act.put, zz]
      refine wpAnyH_done (by kernel_rfl) ?_ _
      have hbxE := hSE.1
      have b0 := blk_cell hbxE 0 _ rfl
      have b1 := blk_cell hbxE 1 _ rfl
      have y0 := blk_froz hrsE 0
      have y1 := blk_froz hrsE 1
      have v0 := blk_cell hrsE 0 _ rfl
      have v1 := blk_cell hrsE 1 _ rfl
      clear q0 q1 z0 z1
      go_wp2
      have hres := set_block (o := 1) (v := .slice q B.length d) (set_block (o := 0) (v := .int .i64 (args : Nat)) hrsE)
      refine bodyPost_ret (v := .tuple #[.agg #[.int .i64 (args : Nat), .slice q B.length d], .int .i64 (k : Nat), .int .i64 9]) ?_ rfl ?_
      ·have d0 := blk_cell hres 0 (.int .i64 (args : Nat)) rfl
       have d1 := blk_cell hres 1 (.slice q B.length d) rfl
       simp [results, Tryz.results38, go_sem, d0, d1]
      ·rw [HOUT.out.1, HOUT.out.2.1, HOUT.out.2.2]
       exact ⟨_, _, rfl, (hrepE.set hrsE (by decide) (by decide) (by decide)).set (set_block hrsE) (by decide) (by decide) (by decide), below_set (below_set hbwE (by omega) _ _) (by omega) _ _⟩
    ·rw [if_pos (by rfl)]
     go_wp2_with fail
     have hba := below_al (Below.refl wd.heap.size wd) (.cells #[.int .i64 0, .slice none 0 0] 78)
     have hSwf := RwS.below hSwd hba
     have hbwwf := hbwwd.trans (hba.mono hbwwd.size)
     have hrswf := (hba.block _ (lt_of_block hrswd)).trans hrswd
     have hgawf := heap_alloc_new wd (.cells #[.int .i64 0, .slice none 0 0] 78)
     have hgag : w.heap.size + 1 < wd.heap.size := lt_of_block hrswd
     have HB1wf := hide (HBd.out.below hba)
     have hdf := hba
     have hgpa : gp < wd.heap.size := cell_lt hSwd.2.1
     generalize wd.alloc (.cells #[.int .i64 0, .slice none 0 0] 78) = wf at *
     generalize wd.heap.size = ga at *
     refine hK.out _ _ hSwf (fun hHeld => ?_)
     clear hK K
     try simp only [Act.put, zz]
     refine wpAnyH_ready (rs := [6]) (by kernel_rfl) (by simp) ?_
     refine AllReadyH.cons rfl (fun K hK => ?_) AllReadyH.nil
     rw [if_pos (by rfl)]
     go_wp2_with fail
     refine (HPK.out k _ _ hbwwf hn0 (by omega)).mono ?_
     rintro e w3 ⟨rfl, h3⟩
     have h3s := h3.symm
     subst h3s
     rw [HIX.out]
     refine hK.out _ _ hSwf (fun hHeld => ?_)
     clear hK K
     try simp only [Act.put, zz]
     refine wpAnyH_take (i := 7) (v := .pointer (some ⟨gp, ix * 5, none⟩)) rfl (by kernel_rfl) (by kernel_rfl) (by kernel_rfl) (fun _ _ _ h => h) (Or.inl ⟨by rfl, fun w' h => by  go_simp⟩) hSwf ?_
     try simp only [Act.put, zz]
     refine wpAnyH_take (i := 8) (v := .agg #[.int .i64 (pr.block : Nat), .int .i64 (pr.index : Nat), .int .i64 (rk : Nat), .slice sp sn sc, .iface T2 x2]) rfl (by kernel_rfl) (by kernel_rfl) (by kernel_rfl) (fun _ _ _ h => h) (Or.inl ⟨by rfl, fun w' h => by obtain ⟨_, r0, r1, r2, r3, r4⟩ := h; go_simp⟩) hSwf ?_
     try simp only [Act.put, zz]
     refine wpAnyH_ready (rs := [9]) (by kernel_rfl) (by simp) ?_
     refine AllReadyH.cons rfl (fun K hK => ?_) AllReadyH.nil
     rw [if_pos (by rfl)]
     go_wp2_with fail
     refine (HSTP.out wf hbwwf (by exact hdf)).mono ?_
     rintro e we ⟨hbs, hend⟩
     have hSwe := RwS.below hSwf hbs
     have hbwwe := hbwwf.trans (hbs.mono hbwwf.size)
     have hrswe := (hbs.block _ (lt_of_block hrswf)).trans hrswf
     have hgawe := (hbs.block _ (lt_of_block hgawf)).trans hgawf
     have HB1we := hide (HB1wf.out.below hbs)
     obtain ⟨p', m', c', rfl⟩ : ∃ p' m' c', e = .returned (.tuple #[.agg #[.int .i64 (args : Nat), .slice p' m' c'], .bool false]) := hend
     have hrepwe := HB1we.out
     refine hK.out _ _ hSwe (fun hHeld => ?_)
     clear hK K
     try simp only [Act.put, zz]
     refine wpAnyH_take (i := 10) (v := .tuple #[.agg #[.int .i64 (args : Nat), .slice p' m' c'], .bool false]) rfl (by kernel_rfl) (by kernel_rfl) (by kernel_rfl) (fun _ _ _ h => h) (Or.inl ⟨by rfl, fun w' h => by  go_simp⟩) hSwe ?_
     try simp only [Act.put, zz]
     refine wpAnyH_take (i := 11) (v := .agg #[.int .i64 (args : Nat), .slice p' m' c']) rfl (by kernel_rfl) (by kernel_rfl) (by kernel_rfl) (fun _ _ _ h => h) (Or.inl ⟨by rfl, fun w' h => by  go_simp⟩) hSwe ?_
     try simp only [Act.put, zz]
     refine wpAnyH_take (i := 12) (v := .bool false) rfl (by kernel_rfl) (by kernel_rfl) (by kernel_rfl) (fun _ _ _ h => h) (Or.inl ⟨by rfl, fun w' h => by  go_simp⟩) hSwe ?_
     try simp only [Act.put, zz]
     have q0 := blk_cell hgawe 0 _ rfl
     have q1 := blk_cell hgawe 1 _ rfl
     have z0 := blk_froz hgawe 0
     have z1 := blk_froz hgawe 1
     refine wpAnyH_ready (rs := [14]) (by kernel_rfl) (by simp) ?_
     refine AllReadyH.cons rfl (fun K hK => ?_) AllReadyH.nil
     rw [if_pos (by rfl)]
     go_wp2_with fail
     have hSE := RwS.set (RwS.set hSwe (q' := 0) (u := .int .i64 (args : Nat)) (g := ga) (by omega) (by omega)) (q' := 1) (u := .slice p' m' c') (g := ga) (by omega) (by omega)
     have hrsE := stay_set (a := ⟨ga, 1, none⟩) (v := .slice p' m' c') (stay_set (a := ⟨ga, 0, none⟩) (v := .int .i64 (args : Nat)) hrswe (show w.heap.size + 1 ≠ ga by omega)) (show w.heap.size + 1 ≠ ga by omega)
     have hrepE := (hrepwe.set (o := 0) (u := .int .i64 (args : Nat)) hgawe (by decide) (by decide) (by decide)).set (o := 1) (u := .slice p' m' c') (set_block hgawe) (by decide) (by decide) (by decide)
     have hbwE : Below w.heap.size w ((we.setCell ⟨ga, 0, none⟩ (.int .i64 (args : Nat))).setCell ⟨ga, 1, none⟩ (.slice p' m' c')) := below_set (below_set hbwwe (by omega) _ _) (by omega) _ _
     generalize (we.setCell ⟨ga, 0, none⟩ (.int .i64 (args : Nat))).setCell ⟨ga, 1, none⟩ (.slice p' m' c') = wE at *
     refine hK.out _ _ hSE (fun hHeld => ?_)
     clear hK K
     try simp only [Act.put, zz]
     refine wpAnyH_take (i := 15) (v := .bool false) rfl (by kernel_rfl) (by kernel_rfl) (by kernel_rfl) (fun _ _ _ h => h) (Or.inl ⟨by rfl, fun w' h => by  go_simp⟩) hSE ?_
     try simp only [Act.put, zz]
     refine wpAnyH_done (by kernel_rfl) ?_ _
     have hbxE := hSE.1
     have b0 := blk_cell hbxE 0 _ rfl
     have b1 := blk_cell hbxE 1 _ rfl
     have y0 := blk_froz hrsE 0
     have y1 := blk_froz hrsE 1
     have v0 := blk_cell hrsE 0 _ rfl
     have v1 := blk_cell hrsE 1 _ rfl
     clear q0 q1 z0 z1
     go_wp2
     have hres := set_block (o := 1) (v := .slice q B.length d) (set_block (o := 0) (v := .int .i64 (args : Nat)) hrsE)
     refine bodyPost_ret (v := .tuple #[.agg #[.int .i64 (args : Nat), .slice q B.length d], .int .i64 (k : Nat), .int .i64 9]) ?_ rfl ?_
     ·have d0 := blk_cell hres 0 (.int .i64 (args : Nat)) rfl
      have d1 := blk_cell hres 1 (.slice q B.length d) rfl
      simp [results, Tryz.results38, go_sem, d0, d1]
     ·rw [HOUT.out.1, HOUT.out.2.1, HOUT.out.2.2]
      exact ⟨_, _, rfl, (hrepE.set hrsE (by decide) (by decide) (by decide)).set (set_block hrsE) (by decide) (by decide) (by decide), below_set (below_set hbwE (by omega) _ _) (by omega) _ _⟩
   ·have HFN := hide (HNF.out B n pr HFB.out hmem hst)
    have HNX := hide hnx
    have HSTP : Hid (∀ w2, Below w.heap.size w w2 -> Below wd.heap.size wd w2 -> Calls Tryz.prog 77 #[.agg #[.int .i64 (args : Nat), .slice q B.length d], .agg #[.int .i64 (pr.block : Nat), .int .i64 (pr.index : Nat), .int .i64 (rk : Nat), .slice sp sn sc, .iface T2 x2]] w2 fun e w' => Below w2.heap.size w2 w' /\ ∃ n' p' c', some n = some n' /\ e = .returned (.tuple #[.agg #[.int .i64 (args : Nat), .slice p' n'.length c'], .bool true]) /\ RepBlks w' 0 (.slice p' n'.length c') n') := hide fun w2 _ h2 => (HSTD.out w2 h2).mono fun e w' h => by
     rw [hst] at h
     obtain ⟨h1, h3 | ⟨p', m', c', h, he⟩⟩ := h
     ·exact ⟨h1, h3⟩
     ·cases h
    clear hst hnx HSTD
    refine wpAnyH_ready (rs := [6, 13]) (by kernel_rfl) (by simp) ?_
    refine AllReadyH.cons rfl (fun K hK => ?_) (AllReadyH.cons rfl (fun K hK => ?_) AllReadyH.nil)
    ·rw [if_pos (by rfl)]
     go_wp2_with fail
     refine (HPK.out k _ _ hbwwd hn0 (by omega)).mono ?_
     rintro e w3 ⟨rfl, h3⟩
     have h3s := h3.symm
     subst h3s
     rw [HIX.out]
     refine hK.out _ _ hSwd (fun hHeld => ?_)
     clear hK K
     try simp only [Act.put, zz]
     refine wpAnyH_take (i := 7) (v := .pointer (some ⟨gp, ix * 5, none⟩)) rfl (by kernel_rfl) (by kernel_rfl) (by kernel_rfl) (fun _ _ _ h => h) (Or.inl ⟨by rfl, fun w' h => by  go_simp⟩) hSwd ?_
     try simp only [Act.put, zz]
     refine wpAnyH_take (i := 8) (v := .agg #[.int .i64 (pr.block : Nat), .int .i64 (pr.index : Nat), .int .i64 (rk : Nat), .slice sp sn sc, .iface T2 x2]) rfl (by kernel_rfl) (by kernel_rfl) (by kernel_rfl) (fun _ _ _ h => h) (Or.inl ⟨by rfl, fun w' h => by obtain ⟨_, r0, r1, r2, r3, r4⟩ := h; go_simp⟩) hSwd ?_
     try simp only [Act.put, zz]
     refine wpAnyH_ready (rs := [9, 13]) (by kernel_rfl) (by simp) ?_
     refine AllReadyH.cons rfl (fun K hK => ?_) (AllReadyH.cons rfl (fun K hK => ?_) AllReadyH.nil)
     ·rw [if_pos (by rfl)]
      go_wp2_with fail
      refine (HSTP.out wd hbwwd (by exact Below.refl _ _)).mono ?_
      rintro e we ⟨hbs, hend⟩
      have hSwe := RwS.below hSwd hbs
      have hbwwe := hbwwd.trans (hbs.mono hbwwd.size)
      have hrswe := (hbs.block _ (lt_of_block hrswd)).trans hrswd
      have HB1we := hide (HBd.out.below hbs)
      obtain ⟨n', p', c', ho, rfl, hrepwe⟩ : ∃ n' p' c', some n = some n' /\ e = .returned (.tuple #[.agg #[.int .i64 (args : Nat), .slice p' n'.length c'], .bool true]) /\ RepBlks we 0 (.slice p' n'.length c') n' := hend
      simp only [Option.some.injEq] at ho
      subst ho
      refine hK.out _ _ hSwe (fun hHeld => ?_)
      clear hK K
      try simp only [Act.put, zz]
      refine wpAnyH_take (i := 10) (v := .tuple #[.agg #[.int .i64 (args : Nat), .slice p' n.length c'], .bool true]) rfl (by kernel_rfl) (by kernel_rfl) (by kernel_rfl) (fun _ _ _ h => h) (Or.inl ⟨by rfl, fun w' h => by  go_simp⟩) hSwe ?_
      try simp only [Act.put, zz]
      refine wpAnyH_take (i := 11) (v := .agg #[.int .i64 (args : Nat), .slice p' n.length c']) rfl (by kernel_rfl) (by kernel_rfl) (by kernel_rfl) (fun _ _ _ h => h) (Or.inl ⟨by rfl, fun w' h => by  go_simp⟩) hSwe ?_
      try simp only [Act.put, zz]
      refine wpAnyH_take (i := 12) (v := .bool true) rfl (by kernel_rfl) (by kernel_rfl) (by kernel_rfl) (fun _ _ _ h => h) (Or.inl ⟨by rfl, fun w' h => by  go_simp⟩) hSwe ?_
      try simp only [Act.put, zz]
      refine wpAnyH_ready (rs := [13]) (by kernel_rfl) (by simp) ?_
      refine AllReadyH.cons rfl (fun K hK => ?_) AllReadyH.nil
      rw [if_pos (by rfl)]
      go_wp2_with fail
      have hba := below_al (Below.refl we.heap.size we) (.cells #[.int .i64 0, .slice none 0 0] 78)
      have hSwz := RwS.below hSwe hba
      have hbwwz := hbwwe.trans (hba.mono hbwwe.size)
      have hrswz := (hba.block _ (lt_of_block hrswe)).trans hrswe
      have hgawz := heap_alloc_new we (.cells #[.int .i64 0, .slice none 0 0] 78)
      have hgag : w.heap.size + 1 < we.heap.size := lt_of_block hrswe
      have hrepwz := hrepwe.below hba
      have hgpa : gp < we.heap.size := cell_lt hSwe.2.1
      generalize we.alloc (.cells #[.int .i64 0, .slice none 0 0] 78) = wz at *
      generalize we.heap.size = ga at *
      refine hK.out _ _ hSwz (fun hHeld => ?_)
      clear hK K
      try simp only [Act.put, zz]
      have q0 := blk_cell hgawz 0 _ rfl
      have q1 := blk_cell hgawz 1 _ rfl
      have z0 := blk_froz hgawz 0
      have z1 := blk_froz hgawz 1
      refine wpAnyH_ready (rs := [14]) (by kernel_rfl) (by simp) ?_
      refine AllReadyH.cons rfl (fun K hK => ?_) AllReadyH.nil
      rw [if_pos (by rfl)]
      go_wp2_with fail
      have hgaE := set_block (o := 1) (v := .slice p' n.length c') (set_block (o := 0) (v := .int .i64 (args : Nat)) hgawz)
      have hSE := RwS.set (RwS.set hSwz (q' := 0) (u := .int .i64 (args : Nat)) (g := ga) (by omega) (by omega)) (q' := 1) (u := .slice p' n.length c') (g := ga) (by omega) (by omega)
      have hrsE := stay_set (a := ⟨ga, 1, none⟩) (v := .slice p' n.length c') (stay_set (a := ⟨ga, 0, none⟩) (v := .int .i64 (args : Nat)) hrswz (show w.heap.size + 1 ≠ ga by omega)) (show w.heap.size + 1 ≠ ga by omega)
      have hrepE := (hrepwz.set (o := 0) (u := .int .i64 (args : Nat)) hgawz (by decide) (by decide) (by decide)).set (o := 1) (u := .slice p' n.length c') (set_block hgawz) (by decide) (by decide) (by decide)
      have hbwE : Below w.heap.size w ((wz.setCell ⟨ga, 0, none⟩ (.int .i64 (args : Nat))).setCell ⟨ga, 1, none⟩ (.slice p' n.length c')) := below_set (below_set hbwwz (by omega) _ _) (by omega) _ _
      generalize (wz.setCell ⟨ga, 0, none⟩ (.int .i64 (args : Nat))).setCell ⟨ga, 1, none⟩ (.slice p' n.length c') = wE at *
      refine hK.out _ _ hSE (fun hHeld => ?_)
      clear hK K
      try simp only [Act.put, zz]
      refine wpAnyH_take (i := 15) (v := .bool true) rfl (by kernel_rfl) (by kernel_rfl) (by kernel_rfl) (fun _ _ _ h => h) (Or.inl ⟨by rfl, fun w' h => by  go_simp⟩) hSE ?_
      try simp only [Act.put, zz]
      refine wpAnyH_done (by kernel_rfl) ?_ _
      have hbxE := hSE.1
      have g0 := blk_cell hgaE 0 (.int .i64 (args : Nat)) rfl
      have g1 := blk_cell hgaE 1 (.slice p' n.length c') rfl
      have b0 := blk_cell hbxE 0 _ rfl
      have b1 := blk_cell hbxE 1 _ rfl
      have y0 := blk_froz hbxE 0
      have y1 := blk_froz hbxE 1
      clear q0 q1 z0 z1
      go_wp2
      have hbxF := set_block (o := 1) (v := .slice p' n.length c') (set_block (o := 0) (v := .int .i64 (args : Nat)) hbxE)
      have hrsF := stay_set (a := ⟨w.heap.size, 1, none⟩) (v := .slice p' n.length c') (stay_set (a := ⟨w.heap.size, 0, none⟩) (v := .int .i64 (args : Nat)) hrsE (show w.heap.size + 1 ≠ w.heap.size by omega)) (show w.heap.size + 1 ≠ w.heap.size by omega)
      have hrepF := (hrepE.set (o := 0) (u := .int .i64 (args : Nat)) hbxE (by decide) (by decide) (by decide)).set (o := 1) (u := .slice p' n.length c') (set_block hbxE) (by decide) (by decide) (by decide)
      have hkl := HNX.out.le
      exact ⟨⟨k + 1, n, p', c', by go_num, hkl, hbxF, hrsF, hide hrepF, HFN, HNX, below_set (below_set hbwE (Nat.le_refl _) _ _) (Nat.le_refl _) _ _⟩, by simp [intOf]; omega⟩
     ·rw [if_pos (by rfl)]
      go_wp2_with fail
      have hba := below_al (Below.refl wd.heap.size wd) (.cells #[.int .i64 0, .slice none 0 0] 78)
      have hSwf := RwS.below hSwd hba
      have hbwwf := hbwwd.trans (hba.mono hbwwd.size)
      have hrswf := (hba.block _ (lt_of_block hrswd)).trans hrswd
      have hgawf := heap_alloc_new wd (.cells #[.int .i64 0, .slice none 0 0] 78)
      have hgag : w.heap.size + 1 < wd.heap.size := lt_of_block hrswd
      have HB1wf := hide (HBd.out.below hba)
      have hdf := hba
      have hgpa : gp < wd.heap.size := cell_lt hSwd.2.1
      generalize wd.alloc (.cells #[.int .i64 0, .slice none 0 0] 78) = wf at *
      generalize wd.heap.size = ga at *
      refine hK.out _ _ hSwf (fun hHeld => ?_)
      clear hK K
      try simp only [Act.put, zz]
      refine wpAnyH_ready (rs := [9]) (by kernel_rfl) (by simp) ?_
      refine AllReadyH.cons rfl (fun K hK => ?_) AllReadyH.nil
      rw [if_pos (by rfl)]
      go_wp2_with fail
      refine (HSTP.out wf hbwwf (by exact hdf)).mono ?_
      rintro e we ⟨hbs, hend⟩
      have hSwe := RwS.below hSwf hbs
      have hbwwe := hbwwf.trans (hbs.mono hbwwf.size)
      have hrswe := (hbs.block _ (lt_of_block hrswf)).trans hrswf
      have hgawe := (hbs.block _ (lt_of_block hgawf)).trans hgawf
      have HB1we := hide (HB1wf.out.below hbs)
      obtain ⟨n', p', c', ho, rfl, hrepwe⟩ : ∃ n' p' c', some n = some n' /\ e = .returned (.tuple #[.agg #[.int .i64 (args : Nat), .slice p' n'.length c'], .bool true]) /\ RepBlks we 0 (.slice p' n'.length c') n' := hend
      simp only [Option.some.injEq] at ho
      subst ho
      refine hK.out _ _ hSwe (fun hHeld => ?_)
      clear hK K
      try simp only [Act.put, zz]
      refine wpAnyH_take (i := 10) (v := .tuple #[.agg #[.int .i64 (args : Nat), .slice p' n.length c'], .bool true]) rfl (by kernel_rfl) (by kernel_rfl) (by kernel_rfl) (fun _ _ _ h => h) (Or.inl ⟨by rfl, fun w' h => by  go_simp⟩) hSwe ?_
      try simp only [Act.put, zz]
      refine wpAnyH_take (i := 11) (v := .agg #[.int .i64 (args : Nat), .slice p' n.length c']) rfl (by kernel_rfl) (by kernel_rfl) (by kernel_rfl) (fun _ _ _ h => h) (Or.inl ⟨by rfl, fun w' h => by  go_simp⟩) hSwe ?_
      try simp only [Act.put, zz]
      refine wpAnyH_take (i := 12) (v := .bool true) rfl (by kernel_rfl) (by kernel_rfl) (by kernel_rfl) (fun _ _ _ h => h) (Or.inl ⟨by rfl, fun w' h => by  go_simp⟩) hSwe ?_
      try simp only [Act.put, zz]
      have q0 := blk_cell hgawe 0 _ rfl
      have q1 := blk_cell hgawe 1 _ rfl
      have z0 := blk_froz hgawe 0
      have z1 := blk_froz hgawe 1
      refine wpAnyH_ready (rs := [14]) (by kernel_rfl) (by simp) ?_
      refine AllReadyH.cons rfl (fun K hK => ?_) AllReadyH.nil
      rw [if_pos (by rfl)]
      go_wp2_with fail
      have hgaE := set_block (o := 1) (v := .slice p' n.length c') (set_block (o := 0) (v := .int .i64 (args : Nat)) hgawe)
      have hSE := RwS.set (RwS.set hSwe (q' := 0) (u := .int .i64 (args : Nat)) (g := ga) (by omega) (by omega)) (q' := 1) (u := .slice p' n.length c') (g := ga) (by omega) (by omega)
      have hrsE := stay_set (a := ⟨ga, 1, none⟩) (v := .slice p' n.length c') (stay_set (a := ⟨ga, 0, none⟩) (v := .int .i64 (args : Nat)) hrswe (show w.heap.size + 1 ≠ ga by omega)) (show w.heap.size + 1 ≠ ga by omega)
      have hrepE := (hrepwe.set (o := 0) (u := .int .i64 (args : Nat)) hgawe (by decide) (by decide) (by decide)).set (o := 1) (u := .slice p' n.length c') (set_block hgawe) (by decide) (by decide) (by decide)
      have hbwE : Below w.heap.size w ((we.setCell ⟨ga, 0, none⟩ (.int .i64 (args : Nat))).setCell ⟨ga, 1, none⟩ (.slice p' n.length c')) := below_set (below_set hbwwe (by omega) _ _) (by omega) _ _
      generalize (we.setCell ⟨ga, 0, none⟩ (.int .i64 (args : Nat))).setCell ⟨ga, 1, none⟩ (.slice p' n.length c') = wE at *
      refine hK.out _ _ hSE (fun hHeld => ?_)
      clear hK K
      try simp only [Act.put, zz]
      refine wpAnyH_take (i := 15) (v := .bool true) rfl (by kernel_rfl) (by kernel_rfl) (by kernel_rfl) (fun _ _ _ h => h) (Or.inl ⟨by rfl, fun w' h => by  go_simp⟩) hSE ?_
      try simp only [Act.put, zz]
      refine wpAnyH_done (by kernel_rfl) ?_ _
      have hbxE := hSE.1
      have g0 := blk_cell hgaE 0 (.int .i64 (args : Nat)) rfl
      have g1 := blk_cell hgaE 1 (.slice p' n.length c') rfl
      have b0 := blk_cell hbxE 0 _ rfl
      have b1 := blk_cell hbxE 1 _ rfl
      have y0 := blk_froz hbxE 0
      have y1 := blk_froz hbxE 1
      clear q0 q1 z0 z1
      go_wp2
      have hbxF := set_block (o := 1) (v := .slice p' n.length c') (set_block (o := 0) (v := .int .i64 (args : Nat)) hbxE)
      have hrsF := stay_set (a := ⟨w.heap.size, 1, none⟩) (v := .slice p' n.length c') (stay_set (a := ⟨w.heap.size, 0, none⟩) (v := .int .i64 (args : Nat)) hrsE (show w.heap.size + 1 ≠ w.heap.size by omega)) (show w.heap.size + 1 ≠ w.heap.size by omega)
      have hrepF := (hrepE.set (o := 0) (u := .int .i64 (args : Nat)) hbxE (by decide) (by decide) (by decide)).set (o := 1) (u := .slice p' n.length c') (set_block hbxE) (by decide) (by decide) (by decide)
      have hkl := HNX.out.le
      exact ⟨⟨k + 1, n, p', c', by go_num, hkl, hbxF, hrsF, hide hrepF, HFN, HNX, below_set (below_set hbwE (Nat.le_refl _) _ _) (Nat.le_refl _) _ _⟩, by simp [intOf]; omega⟩
    ·rw [if_pos (by rfl)]
     go_wp2_with fail
     have hba := below_al (Below.refl wd.heap.size wd) (.cells #[.int .i64 0, .slice none 0 0] 78)
     have hSwf := RwS.below hSwd hba
     have hbwwf := hbwwd.trans (hba.mono hbwwd.size)
     have hrswf := (hba.block _ (lt_of_block hrswd)).trans hrswd
     have hgawf := heap_alloc_new wd (.cells #[.int .i64 0, .slice none 0 0] 78)
     have hgag : w.heap.size + 1 < wd.heap.size := lt_of_block hrswd
     have HB1wf := hide (HBd.out.below hba)
     have hdf := hba
     have hgpa : gp < wd.heap.size := cell_lt hSwd.2.1
     generalize wd.alloc (.cells #[.int .i64 0, .slice none 0 0] 78) = wf at *
     generalize wd.heap.size = ga at *
     refine hK.out _ _ hSwf (fun hHeld => ?_)
     clear hK K
     try simp only [Act.put, zz]
     refine wpAnyH_ready (rs := [6]) (by kernel_rfl) (by simp) ?_
     refine AllReadyH.cons rfl (fun K hK => ?_) AllReadyH.nil
     rw [if_pos (by rfl)]
     go_wp2_with fail
     refine (HPK.out k _ _ hbwwf hn0 (by omega)).mono ?_
     rintro e w3 ⟨rfl, h3⟩
     have h3s := h3.symm
     subst h3s
     rw [HIX.out]
     refine hK.out _ _ hSwf (fun hHeld => ?_)
     clear hK K
     try simp only [Act.put, zz]
     refine wpAnyH_take (i := 7) (v := .pointer (some ⟨gp, ix * 5, none⟩)) rfl (by kernel_rfl) (by kernel_rfl) (by kernel_rfl) (fun _ _ _ h => h) (Or.inl ⟨by rfl, fun w' h => by  go_simp⟩) hSwf ?_
     try simp only [Act.put, zz]
     refine wpAnyH_take (i := 8) (v := .agg #[.int .i64 (pr.block : Nat), .int .i64 (pr.index : Nat), .int .i64 (rk : Nat), .slice sp sn sc, .iface T2 x2]) rfl (by kernel_rfl) (by kernel_rfl) (by kernel_rfl) (fun _ _ _ h => h) (Or.inl ⟨by rfl, fun w' h => by obtain ⟨_, r0, r1, r2, r3, r4⟩ := h; go_simp⟩) hSwf ?_
     try simp only [Act.put, zz]
     refine wpAnyH_ready (rs := [9]) (by kernel_rfl) (by simp) ?_
     refine AllReadyH.cons rfl (fun K hK => ?_) AllReadyH.nil
     rw [if_pos (by rfl)]
     go_wp2_with fail
     refine (HSTP.out wf hbwwf (by exact hdf)).mono ?_
     rintro e we ⟨hbs, hend⟩
     have hSwe := RwS.below hSwf hbs
     have hbwwe := hbwwf.trans (hbs.mono hbwwf.size)
     have hrswe := (hbs.block _ (lt_of_block hrswf)).trans hrswf
     have hgawe := (hbs.block _ (lt_of_block hgawf)).trans hgawf
     have HB1we := hide (HB1wf.out.below hbs)
     obtain ⟨n', p', c', ho, rfl, hrepwe⟩ : ∃ n' p' c', some n = some n' /\ e = .returned (.tuple #[.agg #[.int .i64 (args : Nat), .slice p' n'.length c'], .bool true]) /\ RepBlks we 0 (.slice p' n'.length c') n' := hend
     simp only [Option.some.injEq] at ho
     subst ho
     refine hK.out _ _ hSwe (fun hHeld => ?_)
     clear hK K
     try simp only [Act.put, zz]
     refine wpAnyH_take (i := 10) (v := .tuple #[.agg #[.int .i64 (args : Nat), .slice p' n.length c'], .bool true]) rfl (by kernel_rfl) (by kernel_rfl) (by kernel_rfl) (fun _ _ _ h => h) (Or.inl ⟨by rfl, fun w' h => by  go_simp⟩) hSwe ?_
     try simp only [Act.put, zz]
     refine wpAnyH_take (i := 11) (v := .agg #[.int .i64 (args : Nat), .slice p' n.length c']) rfl (by kernel_rfl) (by kernel_rfl) (by kernel_rfl) (fun _ _ _ h => h) (Or.inl ⟨by rfl, fun w' h => by  go_simp⟩) hSwe ?_
     try simp only [Act.put, zz]
     refine wpAnyH_take (i := 12) (v := .bool true) rfl (by kernel_rfl) (by kernel_rfl) (by kernel_rfl) (fun _ _ _ h => h) (Or.inl ⟨by rfl, fun w' h => by  go_simp⟩) hSwe ?_
     try simp only [Act.put, zz]
     have q0 := blk_cell hgawe 0 _ rfl
     have q1 := blk_cell hgawe 1 _ rfl
     have z0 := blk_froz hgawe 0
     have z1 := blk_froz hgawe 1
     refine wpAnyH_ready (rs := [14]) (by kernel_rfl) (by simp) ?_
     refine AllReadyH.cons rfl (fun K hK => ?_) AllReadyH.nil
     rw [if_pos (by rfl)]
     go_wp2_with fail
     have hgaE := set_block (o := 1) (v := .slice p' n.length c') (set_block (o := 0) (v := .int .i64 (args : Nat)) hgawe)
     have hSE := RwS.set (RwS.set hSwe (q' := 0) (u := .int .i64 (args : Nat)) (g := ga) (by omega) (by omega)) (q' := 1) (u := .slice p' n.length c') (g := ga) (by omega) (by omega)
     have hrsE := stay_set (a := ⟨ga, 1, none⟩) (v := .slice p' n.length c') (stay_set (a := ⟨ga, 0, none⟩) (v := .int .i64 (args : Nat)) hrswe (show w.heap.size + 1 ≠ ga by omega)) (show w.heap.size + 1 ≠ ga by omega)
     have hrepE := (hrepwe.set (o := 0) (u := .int .i64 (args : Nat)) hgawe (by decide) (by decide) (by decide)).set (o := 1) (u := .slice p' n.length c') (set_block hgawe) (by decide) (by decide) (by decide)
     have hbwE : Below w.heap.size w ((we.setCell ⟨ga, 0, none⟩ (.int .i64 (args : Nat))).setCell ⟨ga, 1, none⟩ (.slice p' n.length c')) := below_set (below_set hbwwe (by omega) _ _) (by omega) _ _
     generalize (we.setCell ⟨ga, 0, none⟩ (.int .i64 (args : Nat))).setCell ⟨ga, 1, none⟩ (.slice p' n.length c') = wE at *
     refine hK.out _ _ hSE (fun hHeld => ?_)
     clear hK K
     try simp only [Act.put, zz]
     refine wpAnyH_take (i := 15) (v := .bool true) rfl (by kernel_rfl) (by kernel_rfl) (by kernel_rfl) (fun _ _ _ h => h) (Or.inl ⟨by rfl, fun w' h => by  go_simp⟩) hSE ?_
     try simp only [Act.put, zz]
     refine wpAnyH_done (by kernel_rfl) ?_ _
     have hbxE := hSE.1
     have g0 := blk_cell hgaE 0 (.int .i64 (args : Nat)) rfl
     have g1 := blk_cell hgaE 1 (.slice p' n.length c') rfl
     have b0 := blk_cell hbxE 0 _ rfl
     have b1 := blk_cell hbxE 1 _ rfl
     have y0 := blk_froz hbxE 0
     have y1 := blk_froz hbxE 1
     clear q0 q1 z0 z1
     go_wp2
     have hbxF := set_block (o := 1) (v := .slice p' n.length c') (set_block (o := 0) (v := .int .i64 (args : Nat)) hbxE)
     have hrsF := stay_set (a := ⟨w.heap.size, 1, none⟩) (v := .slice p' n.length c') (stay_set (a := ⟨w.heap.size, 0, none⟩) (v := .int .i64 (args : Nat)) hrsE (show w.heap.size + 1 ≠ w.heap.size by omega)) (show w.heap.size + 1 ≠ w.heap.size by omega)
     have hrepF := (hrepE.set (o := 0) (u := .int .i64 (args : Nat)) hbxE (by decide) (by decide) (by decide)).set (o := 1) (u := .slice p' n.length c') (set_block hbxE) (by decide) (by decide) (by decide)
     have hkl := HNX.out.le
     exact ⟨⟨k + 1, n, p', c', by go_num, hkl, hbxF, hrsF, hide hrepF, HFN, HNX, below_set (below_set hbwE (Nat.le_refl _) _ _) (Nat.le_refl _) _ _⟩, by simp [intOf]; omega⟩
namespace Code
theorem find_once : ∀ {l : List Val}, (l.map Val.num).Nodup -> ∀ v ∈ l, (l.find? fun u => u.num == v.num) = some v
 | u :: l, h, v, hv => by
  simp only [List.map_cons, List.nodup_cons] at h
  rw [List.find?_cons]
  rcases List.mem_cons.1 hv with hv | hv
  ·subst hv; simp
  ·have hne : (u.num == v.num) = false := by
    rw [beq_eq_false_iff_ne]
    intro e
    exact h.1 (by rw [e]; exact List.mem_map_of_mem hv)
   rw [hne]
   exact find_once h.2 v hv
theorem things_at {bks : List Blk} (h : OnceN bks) {b : Blk} {v : Val} (hb : b ∈ bks) (hv : v ∈ b.values) : things bks v.num = some v.thing := by
 unfold things
 rw [find_once h v (List.mem_flatMap.2 ⟨b, hb, hv⟩)]
 rfl
theorem sumV_nonneg (l : List Val) : 0 <= sumV l := by
 induction l with
 | nil => simp [sumV_nil]
 | cons v l ih =>
  have := weightT_range v.thing
  rw [sumV_cons]; omega
theorem sumB_nonneg (l : List Blk) : 0 <= sumB l := by
 induction l with
 | nil => simp [sumB_nil]
 | cons b l ih =>
  have := sumV_nonneg b.values
  rw [sumB_cons]; omega
theorem fits_op {th : Nat -> Option Thing} {k : Nat} {l : List RTree} {n : Nat} {kn kn' : Known} (h : fits th (.op k l) n kn = some kn') : ∃ of, th n = some (.apply k of) := by
 simp only [fits] at h
 split at h
 ·rename_i j of hj
  split at h
  ·rename_i e; subst e; exact ⟨of, hj⟩
  ·cases h
 ·cases h
theorem stepR_lighter {args : Nat} {rules : List CRule} {bks n : List Blk} {p : Pair} (hf : Fine bks) (hR : ∀ R ∈ rules, RuleOk R) (hp : p ∈ pairs rules bks) (hs : stepR args bks p = some n) : sumB n < sumB bks := by
 obtain ⟨hmr, b, v, kn, hb, hv, hkn⟩ := mem_pairs hp
 unfold stepR at hs
 rw [hb, Option.bind_some, hv, Option.bind_some, hkn, Option.bind_some, Option.filter_eq_some_iff] at hs
 obtain ⟨k, l, hnode, hk13, hk3, hheavy⟩ := (hR _ hmr).node
 rw [hnode] at hkn
 obtain ⟨of, hof⟩ := fits_op hkn
 have hvt := things_at hf.once (List.mem_of_getElem? hb) (List.mem_of_getElem? hv)
 rw [hvt, Option.some.injEq] at hof
 obtain ⟨hi, rfl⟩ := List.getElem?_eq_some_iff.1 hb
 obtain ⟨hk, rfl⟩ := List.getElem?_eq_some_iff.1 hv
 exact step_lighter hi hk rfl hof hheavy hs.1
theorem rewS_exists (args : Nat) (rules : List CRule) (picks : List Int) (hR : ∀ R ∈ rules, RuleOk R) : ∀ (N : Nat) (bks : List Blk) (k : Nat), sumB bks <= (N : Int) -> Fine bks -> ∃ out m er, RewS args rules picks k bks out m er /\ m <= k + N /\ Fine out
 | 0, bks, k, hN, hf => by
  by_cases hp : pairs rules bks = []
  ·exact ⟨bks, k, 0, .done hp, by omega, hf⟩
  ·have hlen : 0 < (pairs rules bks).length := List.length_pos_iff.2 hp
   have hlt := pickN_lt (picks := picks) (k := k) hlen
   have hpr := List.getElem?_eq_getElem hlt
   cases hs : stepR args bks (pairs rules bks)[pickN picks k (pairs rules bks).length] with
   | none => exact ⟨bks, k, 9, .room hpr hs, by omega, hf⟩
   | some n =>
    have h1 := stepR_lighter hf hR (List.getElem_mem hlt) hs
    have h2 := sumB_nonneg n
    omega
 | N + 1, bks, k, hN, hf => by
  by_cases hp : pairs rules bks = []
  ·exact ⟨bks, k, 0, .done hp, by omega, hf⟩
  ·have hlen : 0 < (pairs rules bks).length := List.length_pos_iff.2 hp
   have hlt := pickN_lt (picks := picks) (k := k) hlen
   have hpr := List.getElem?_eq_getElem hlt
   cases hs : stepR args bks (pairs rules bks)[pickN picks k (pairs rules bks).length] with
   | none => exact ⟨bks, k, 9, .room hpr hs, by omega, hf⟩
   | some n =>
    have h1 := stepR_lighter hf hR (List.getElem_mem hlt) hs
    obtain ⟨out, m, er, h3, h4, h5⟩ := rewS_exists args rules picks hR N n (k + 1) (by omega) (stepR_fine hf (hR _ (mem_pairs (List.getElem_mem hlt)).1) hs)
    exact ⟨out, m, er, .next hpr hs h3, by omega, h5⟩
theorem weight_few : ∀ (l : List Val), sumV l <= l.length * 20
 | [] => by simp [sumV_nil]
 | v :: l => by
  have := weightT_range v.thing
  have := weight_few l
  rw [sumV_cons, List.length_cons]; omega
theorem sumB_few : ∀ (l : List Blk), (∀ b ∈ l, b.values.length <= 1000) -> sumB l <= l.length * 20000
 | [], _ => by simp [sumB_nil]
 | b :: l, h => by
  have h1 := weight_few b.values
  have h2 := sumB_few l (fun c hc => h c (List.mem_cons_of_mem _ hc))
  have h3 := h b (List.mem_cons_self ..)
  rw [sumB_cons, List.length_cons]; omega
theorem NiceB.sum {bks : List Blk} (h : NiceB bks) : sumB bks <= ((160000 : Nat) : Int) := by
 have h1 := sumB_few bks h.short
 have h2 := h.few
 omega
end Code
end Go.Proofs.YtedkjanogjglkaaGreatDoor
