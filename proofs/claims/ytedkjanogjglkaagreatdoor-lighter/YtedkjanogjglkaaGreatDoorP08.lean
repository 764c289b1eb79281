/-
  Parts of the proof: CFunc2, CFail, CNo, CNo2.
-/
import Derived.Test.YtedkjanogjglkaaGreatDoorP03
import Derived.Test.YtedkjanogjglkaaGreatDoorP07
import Derived.Test.YtedkjanogjglkaaGreatDoorP01
import Derived.Deep.RegionHeld3
set_option maxRecDepth 100000
set_option maxHeartbeats 4000000
namespace Go.Proofs.YtedkjanogjglkaaGreatDoor
open Go.RowKit
def SomeBlks (w : World) (base : Nat) (v : Value) (n : Nat) : Prop := ∃ cs, w.ownsRow base 165 2 v n cs
theorem SomeBlks.kept {w w' : World} {base rb n : Nat} {v : Value} (h : SomeBlks w base v n) {C : Array Value} {z : Nat × Nat} (hb : w.heap[rb]? = some (.cells C 142 z)) (hg : w.grownBy w' (some rb)) : SomeBlks w' base v n := by
 obtain ⟨cs, h⟩ := h
 exact ⟨cs, own_kept hb hg h (by decide)⟩
theorem function_no (rb : Nat) (s : List UInt8) (l : Int) (a : Nat) (w : World) (hr : RdF w rb s l a) (hs : s.length <= 3000) (hl : 0 <= l /\ l + s.length <= 100000) (ht : Tab w) (hrb : 0 < rb) (hf : ∀ f, ¬ Code.FnIs s f) :
  Calls Tryz.prog 74 #[.pointer (some ⟨rb, 0, none⟩)] w fun e w' => Fails w rb 1 e w' := by
 obtain ⟨hl0, hl1⟩ := hl
 obtain ⟨i0, hi, hz0', hz1, hz2⟩ := info_parts infoBlk
 have HT := hide ht
 have HB := hide hf
 clear ht hf
 have hrlt := hr.lt
 go_enter Tryz.func74, Tryz.ntmps74
 go_wp2_with fail
 generalize hw0 : w.alloc _ = w0
 have hg0 : w.grownBy w0 (some rb) := by rw [<- hw0]; exact grown_alloc _ _ _
 have hr0 : RdF w0 rb s l a := by rw [<- hw0]; exact stay_alloc hr
 clear hw0
 refine (take_any rb _ s [102, 117, 110, 99, 32] l 1 _ w0 hr0 hs (by simp)).mono ?_
 rintro e w1 (⟨r1, he, rfl, hr1, hg1⟩ | ⟨he, ⟨lx, rfl⟩, hg1⟩)
 case inr =>
  go_wp2
  exact ⟨rfl, ⟨lx, rfl⟩, grown_trans hg0 hg1⟩
 have HB1 := hide fun (args : Nat) (r2 : List UInt8) (h2 : Code.below 5 r1 = some (args, r2)) (r3 : List UInt8) (h3 : Code.cut [10] r2 = some r3) b r4 (h4 : Code.BlockIs args 0 r3 b r4) bks (h5 : Code.BlocksIs args 1 r4 bks) => HB.out _ (Code.FnIs.mk he h2 h3 h4 h5)
 have l1 := Code.cut_length he
 simp only [List.length_cons, List.length_nil] at l1
 have hgr1 := grown_trans hg0 hg1
 clear HB he hg0 hg1
 go_wp2_with fail
 refine (below_any rb _ r1 l 1 5 _ w1 hr1 (by omega)).mono ?_
 rintro e w2 (⟨args, r2, he, rfl, hr2, hg2⟩ | ⟨he, ⟨lx, rfl⟩, hg2⟩)
 case inr =>
  go_wp2
  exact ⟨rfl, ⟨lx, rfl⟩, grown_trans hgr1 hg2⟩
 have l2 := (Code.below_some he).2
 have HB2 := hide (HB1.out args r2 he)
 have hgr2 := grown_trans hgr1 hg2
 have c3 := hr2.c3
 have f3 := hr2.fz 3
 clear HB1 he hgr1 hg2
 go_wp2_with fail
 generalize hw3 : w2.setCell _ _ = w3
 have hr3 : RdF w3 rb r2 l args := by rw [<- hw3]; exact hr2.set3 _
 have hgr3 : w.grownBy w3 (some rb) := grown_trans hgr2 (by rw [<- hw3]; exact grown_set _ _ _ _)
 clear hw3 hgr2 hr1 hr2 c3 f3
 refine (lineEnd_any rb r2 l args w3 hr3 (by omega) ⟨hl0, by omega⟩).mono ?_
 rintro e w4 (⟨r3, he, rfl, hr4, hg4⟩ | ⟨he, ⟨lx, rfl⟩, hg4⟩)
 case inr =>
  go_wp2
  exact ⟨rfl, ⟨lx, rfl⟩, grown_trans hgr3 hg4⟩
 have l3 := Code.cut_length he
 simp only [List.length_cons, List.length_nil] at l3
 have HB3 := hide (HB2.out r3 he)
 have hgr4 := grown_trans hgr3 hg4
 clear HB2 he hgr3 hg4 hr3 hr0
 go_wp2_with fail
 by_cases hex : ∃ b r4, Code.BlockIs args 0 r3 b r4
 case neg =>
  have HNO := hide fun b t h => hex ⟨b, t, h⟩
  refine (block_no rb r3 0 (l + 1) args w4 hr4 (by omega) ⟨by omega, by omega⟩ (HT.out.grown hgr4 hrb) hrb HNO.out).mono ?_
  rintro e w5 ⟨⟨lx, rfl⟩, hg5⟩
  go_wp2
  exact ⟨rfl, ⟨lx, rfl⟩, grown_trans hgr4 hg5⟩
 obtain ⟨b, r4, hb4⟩ := hex
 have HB4 := hide (HB3.out b r4 hb4)
 refine (block_ok rb r3 r4 0 b (l + 1) args w4 hr4 (by omega) ⟨by omega, by omega⟩ (HT.out.grown hgr4 hrb) hrb hb4).mono ?_
 rintro e w5 ⟨p, c, l5, rfl, hrep5, hr5, hl50, hl51, l5', hg5⟩
 have hgr5 := grown_trans hgr4 hg5
 clear HB3 hb4 hrep5 hg5 hr4 hgr4
 obtain ⟨T, pv, hzv⟩ : ∃ T pv, lastV b.last = .iface T pv := by cases b.last <;> exact ⟨_, _, rfl⟩
 simp only [hzv]
 clear hzv
 go_wp2_with fail
 have hsz5 := hgr5.size
 have hrep6 : SomeBlks (w5.alloc (.cells #[.slice p b.values.length c, .iface T pv] 165)) w.heap.size (.slice (some ⟨w5.heap.size, 0, none⟩) 1 1) 1 := ⟨_, own_new2 w5 _ _ hsz5⟩
 generalize hw6 : w5.alloc _ = w6 at *
 have hr6 : RdF w6 rb r4 l5 args := by rw [<- hw6]; exact stay_alloc hr5
 have hgw6 : w.grownBy w6 (some rb) := grown_trans hgr5 (by rw [<- hw6]; exact grown_alloc _ _ _)
 clear hw6 hr5 hgr5
 go_loopw [3] (fun v wr => ∃ (k : Nat) (s' : List UInt8) (l' : Int), SomeBlks wr w.heap.size v k /\ RdF wr rb s' l' args /\ 0 <= l' /\ l' + s'.length <= 100000 /\ w.grownBy wr (some rb) /\
   k + s'.length <= s.length /\ Hid (∀ bks, ¬ Code.BlocksIs args k s' bks))
  (fun _ wr => restLen wr rb)
 case atStart => exact ⟨1, r4, l5, hrep6, hr6, hl50, hl51, hgw6, by omega, HB4⟩
 case round =>
  obtain ⟨k, s', l', hrep, hrd, hl0', hl1', hgr, hdl, hsp⟩ := hrel
  clear hrep6 hr6 hgw6 HB4
  have hm0 := hide (restLen_of hrd)
  have c0 := hrd.c0
  have c3 := hrd.c3
  obtain ⟨cs, hcs⟩ := hrep
  obtain ⟨p, c, rfl⟩ := own_slice hcs
  have HREP : Hid (SomeBlks wr w.heap.size (.slice p k c) k) := hide ⟨cs, hcs⟩
  clear hcs
  by_cases he : s' = []
  ·subst he
   exact absurd Code.BlocksIs.nil (hsp.out [])
  have q1 : ((bs s').toList == []) = false := toList_no (by rw [bl_bs]; exact he)
  have HE := hide he
  clear he
  go_wp2_with fail
  by_cases hex : ∃ b r4, Code.BlockIs args k s' b r4
  case neg =>
   have HNO := hide fun b t h => hex ⟨b, t, h⟩
   refine (block_no rb s' k l' args wr hrd (by omega) ⟨by omega, by omega⟩ (HT.out.grown hgr hrb) hrb HNO.out).mono ?_
   rintro e w5 ⟨⟨lx, rfl⟩, hg5⟩
   go_wp2
   exact ⟨rfl, ⟨lx, rfl⟩, grown_trans hgr hg5⟩
  obtain ⟨b', r, hb'⟩ := hex
  have HN : Hid (∀ bks, ¬ Code.BlocksIs args (k + 1) r bks) := hide fun bks h => hsp.out _ (Code.BlocksIs.cons HE.out hb' h)
  refine (block_ok rb s' r k b' l' args wr hrd (by omega) ⟨by omega, by omega⟩ (HT.out.grown hgr hrb) hrb hb').mono ?_
  rintro e w5 ⟨p5, c5, l5, rfl, hrep5, hr5, hl50, hl51, l5', hg5⟩
  have hgw5 := grown_trans hgr hg5
  obtain ⟨cs, hcs1⟩ := HREP.out.kept hrd hg5
  clear hrep5 hg5 HREP hb' hsp
  obtain ⟨T, pv, hzv⟩ : ∃ T pv, lastV b'.last = .iface T pv := by cases b'.last <;> exact ⟨_, _, rfl⟩
  simp only [hzv]
  clear hzv
  have hz := hgw5.size
  go_wp2_with (first | (at_builtin; refine wpList_append_own _ rfl _ _ 76 rfl w.heap.size 165 i0 (.agg #[.slice none 0 0, .nilIface]) 2 40 Tryz.underlying76 hi hz0' hz1 hz2 rfl (by decide) _ _ _ rfl (hcs1.alloc _) ⟨_, 0, none⟩ 1 1 [.slice p5 b'.values.length c5, .iface T pv] rfl rfl (cell_two_new _ _ _ _) (fun x hx => by simp at hx; rcases hx with rfl | rfl <;> rfl) (by unfold maxLen; omega) (by omega) (by simp; omega) ?_; intro v' w6 hown' hgrow6 hnil6))
  have hr6 : RdF w6 rb r l5 args := stay_grown (hcs1.alloc _) hgrow6 (stay_alloc hr5) (by decide)
  refine ⟨⟨k + 1, r, l5, ⟨_, hown'⟩, hr6, hl50, hl51, grown_app hgw5 hgrow6 (fun q hq => (hcs1.lt q hq).1), by omega, HN⟩, ?_⟩
  rw [hm0.out, restLen_of hr6]; omega
def FailsB (w : World) (e : Ending) (w' : World) : Prop :=
 (∃ l : Int, e = .panicked [{ v := .iface 61 (.agg #[.int .i64 2, .int .i64 l]), recovered := false }]) /\ Below w.heap.size w w'
theorem own_cap {w : World} {base e size n c : Nat} {p : Option Addr} {xs : List Value} (h : w.ownsRow base e size (.slice p n c) n xs) : n <= c := by
 rcases h.2 with ⟨h1, h2⟩ | ⟨g, cap, cur, hv, _, _, hc, _⟩
 ·omega
 ·simp only [Value.slice.injEq] at hv
  omega
theorem fail_form (args : Nat) (bks : List Code.Blk) (p : Option Addr) (c : Nat) (base : Nat) (w : World) (hf : RepBlks w base (.slice p bks.length c) bks) (hn : bks.length <= 8) (hl : ∀ b ∈ bks, b.values.length <= 100000) (blk : Nat) (hblk : blk < bks.length) (idx : Int) (hidx : -1 <= idx /\ idx <= 1000000) :
  Calls Tryz.prog 161 #[.agg #[.int .i64 (args : Nat), .slice p bks.length c], .int .i64 (blk : Nat), .int .i64 idx] w fun e w' => FailsB w e w' := by
 have hcap : bks.length <= c := by
  obtain ⟨cs, h, _⟩ := hf
  exact own_cap h
 obtain ⟨p', c', hpe, hblks⟩ := hf.open
 simp only [Value.slice.injEq] at hpe
 obtain ⟨rfl, _, rfl⟩ := hpe
 obtain ⟨g0, vs0, rfl, hg0, _⟩ := hblks blk hblk
 have HBLK := hide hblks
 have HL := hide hl
 clear hblks hf hl
 go_enter Tryz.func161, Tryz.ntmps161
 go_wp2_with fail
 generalize hw0 : w.alloc _ = w0
 have hb0 : Below w.heap.size w w0 := by rw [<- hw0]; exact below_al (Below.refl _ _) _
 clear hw0
 go_loopw [6, 16] (fun a i wr => ∃ (j : Nat) (L : Int), j <= blk /\ i = .int .i64 j /\ a = .int .i64 L /\ -1000 <= L /\ L <= 2000000 + 200000 * (j : Int) /\ Below w.heap.size w wr) (fun _ i _ => blk - (intOf i).toNat)
 case atStart => exact ⟨0, 3 + idx, by omega, rfl, rfl, by omega, by omega, hb0⟩
 case round =>
  obtain ⟨j, L, hj, rfl, rfl, hL0, hL1, hbw⟩ := hrel
  clear hb0
  by_cases hlt : j < blk
  ·obtain ⟨g, vs, hge, hg, c0, c1, hvs⟩ := HBLK.out j (by omega)
   have hlen := HL.out (bks[j]'(by omega)) (List.getElem_mem _)
   obtain ⟨pv, cv, rfl, hval⟩ := hvs.open
   cases hge
   clear hval
   have c0' := ((bcell hbw).1 g0 _ hg).trans c0
   have c1' := ((bcell hbw).1 g0 _ hg).trans c1
   obtain ⟨T, zv, hzv⟩ := lastV_shape (bks[j]'(by omega)).last
   rw [hzv] at c1'
   clear c0 c1 hvs hzv
   generalize (bks[j]'(by omega)).values.length = vl at *
   go_wp2
   exact ⟨⟨j + 1, L + ((vl : Int) + 2), by omega, by go_num, rfl, by omega, by omega, below_al hbw _⟩, by simp [intOf]; omega⟩
  ·go_wp2
   exact ⟨rfl, ⟨L, rfl⟩, hbw⟩
theorem failLast_form (args : Nat) (bks : List Code.Blk) (p : Option Addr) (c : Nat) (base : Nat) (w : World) (hf : RepBlks w base (.slice p bks.length c) bks) (hn : bks.length <= 8) (hl : ∀ b ∈ bks, b.values.length <= 100000) (blk : Nat) (hblk : blk < bks.length) :
  Calls Tryz.prog 162 #[.agg #[.int .i64 (args : Nat), .slice p bks.length c], .int .i64 (blk : Nat)] w fun e w' => FailsB w e w' := by
 have HF := hide hf
 have HL := hide hl
 have hlen := hl bks[blk] (List.getElem_mem _)
 obtain ⟨p', c', hpe, hblks⟩ := hf.open
 simp only [Value.slice.injEq] at hpe
 obtain ⟨rfl, _, rfl⟩ := hpe
 obtain ⟨g, vs, rfl, hg, c0, c1, hvs⟩ := hblks blk hblk
 obtain ⟨pv, cv, rfl, hval⟩ := hvs.open
 obtain ⟨T, zv, hzv⟩ := lastV_shape bks[blk].last
 rw [hzv] at c1
 clear hblks hf hl hval hvs hzv
 generalize bks[blk].values.length = vl at *
 have hcap : bks.length <= c := by
  obtain ⟨cs, h, _⟩ := HF.out
  exact own_cap h
 go_enter Tryz.func162, Tryz.ntmps162
 go_wp2_with fail
 generalize hw0 : w.alloc _ = w0
 have hx0 : w0.heap[w.heap.size]? = some (.cells #[.int .i64 (args : Nat), .slice (some ⟨g, 0, none⟩) bks.length c] 78) := by rw [<- hw0]; exact heap_alloc_new w _
 have hb0 : Below w.heap.size w w0 := by rw [<- hw0]; exact below_al (Below.refl _ _) _
 clear hw0
 have hS : w0.drew.cell? ⟨w.heap.size, 0, none⟩ = some (.int .i64 (args : Nat)) /\ w0.drew.cell? ⟨w.heap.size, 1, none⟩ = some (.slice (some ⟨g, 0, none⟩) bks.length c) /\ w0.drew.cell? ⟨g, blk * 2, none⟩ = some (.slice pv vl cv) := ⟨blk_cell hx0 0 _ rfl, blk_cell hx0 1 _ rfl, ((bcell hb0).1 g _ hg).trans c0⟩
 refine wp_region_held_drew (S := fun w' => w'.cell? ⟨w.heap.size, 0, none⟩ = some (.int .i64 (args : Nat)) /\ w'.cell? ⟨w.heap.size, 1, none⟩ = some (.slice (some ⟨g, 0, none⟩) bks.length c) /\ w'.cell? ⟨g, blk * 2, none⟩ = some (.slice pv vl cv)) (by kernel_rfl) hS (fun hHeld => ?_)
 refine wpAnyH_take (i := 0) (v := .agg #[.int .i64 (args : Nat), .slice (some ⟨g, 0, none⟩) bks.length c]) rfl (by kernel_rfl) (by kernel_rfl) (by kernel_rfl) (fun _ _ _ h => h) (Or.inl ⟨by rfl, fun w' h => by obtain ⟨h1, h2, h3⟩ := h; go_simp⟩) hS ?_
 try simp only [Act.put, zz]
 refine wpAnyH_take (i := 1) (v := .int .i64 (blk : Nat)) rfl (by kernel_rfl) (by kernel_rfl) (by kernel_rfl) (fun _ _ _ h => h) (Or.inl ⟨by rfl, fun w' h => by  go_simp⟩) hS ?_
 try simp only [Act.put, zz]
 refine wpAnyH_take (i := 2) (v := .pointer (some ⟨w.heap.size, 1, none⟩)) rfl (by kernel_rfl) (by kernel_rfl) (by kernel_rfl) (fun _ _ _ h => h) (Or.inl ⟨by rfl, fun w' h => by  go_simp⟩) hS ?_
 try simp only [Act.put, zz]
 refine wpAnyH_take (i := 3) (v := .slice (some ⟨g, 0, none⟩) bks.length c) rfl (by kernel_rfl) (by kernel_rfl) (by kernel_rfl) (fun _ _ _ h => h) (Or.inl ⟨by rfl, fun w' h => by obtain ⟨h1, h2, h3⟩ := h; go_simp⟩) hS ?_
 try simp only [Act.put, zz]
 refine wpAnyH_take (i := 4) (v := .int .i64 (blk : Nat)) rfl (by kernel_rfl) (by kernel_rfl) (by kernel_rfl) (fun _ _ _ h => h) (Or.inl ⟨by rfl, fun w' h => by  go_simp⟩) hS ?_
 try simp only [Act.put, zz]
 refine wpAnyH_take (i := 5) (v := .pointer (some ⟨g, blk * 2, none⟩)) rfl (by kernel_rfl) (by kernel_rfl) (by kernel_rfl) (fun _ _ _ h => h) (Or.inl ⟨by rfl, fun w' h => by  go_simp⟩) hS ?_
 try simp only [Act.put, zz]
 refine wpAnyH_take (i := 6) (v := .pointer (some ⟨g, blk * 2, none⟩)) rfl (by kernel_rfl) (by kernel_rfl) (by kernel_rfl) (fun _ _ _ h => h) (Or.inl ⟨by rfl, fun w' h => by  go_simp⟩) hS ?_
 try simp only [Act.put, zz]
 refine wpAnyH_take (i := 7) (v := .slice pv vl cv) rfl (by kernel_rfl) (by kernel_rfl) (by kernel_rfl) (fun _ _ _ h => h) (Or.inl ⟨by rfl, fun w' h => by obtain ⟨h1, h2, h3⟩ := h; go_simp⟩) hS ?_
 try simp only [Act.put, zz]
 refine wpAnyH_take (i := 8) (v := .int .i64 (vl : Nat)) rfl (by kernel_rfl) (by kernel_rfl) (by kernel_rfl) (fun _ _ _ h => h) (Or.inl ⟨by rfl, fun w' h => by  go_simp⟩) hS ?_
 try simp only [Act.put, zz]
 refine wpAnyH_ready (rs := [9]) (by kernel_rfl) (by simp) ?_
 refine AllReadyH.cons rfl (fun K hK => ?_) AllReadyH.nil
 rw [if_pos (by rfl)]
 go_wp2_with fail
 refine (fail_form args bks (some ⟨g, 0, none⟩) c base w0.drew (HF.out.below (Below.drew hb0)) hn HL.out blk hblk vl ⟨by omega, by omega⟩).mono ?_
 rintro e w1 ⟨⟨l, rfl⟩, hb1⟩
 go_wp2
 exact ⟨rfl, ⟨l, rfl⟩, hb0.trans ((undrewB hb1).mono hb0.size)⟩
namespace Code
theorem Fresh.cons {R : List Bool} {v : Val} {l : List Val} (hv : R.getD v.num false = false) (hlt : v.num < R.length) (h : Fresh (R.set v.num true) l) : Fresh R (v :: l) := by
 obtain ⟨h1, h2⟩ := h
 have hne : ∀ x ∈ nums l, x ≠ v.num := by
  rintro x hx rfl
  have := h2 _ hx
  rw [List.getD_eq_getElem?_getD, List.getElem?_set_self hlt] at this
  cases this
 refine ⟨?_, fun x hx => ?_⟩
 ·simp only [nums, List.map_cons, List.nodup_cons]
  exact ⟨fun h => hne _ h rfl, h1⟩
 ·simp only [nums, List.map_cons] at hx
  rcases List.mem_cons.1 hx with rfl | hx
  ·exact hv
  ·have := h2 x hx
   rw [set_getD R v.num x (hne x hx)] at this
   exact this
end Code
theorem bcell' {B : Nat} {W w1 : World} (hb : Below B W w1) (b o : Nat) (h : b < B) (v : Value) (hc : W.cell? ⟨b, o, none⟩ = some v) : w1.cell? ⟨b, o, none⟩ = some v := ((bcell hb).1 b o h).trans hc
theorem madeOnce_no (args : Nat) (bks : List Code.Blk) (p : Option Addr) (c : Nat) (base : Nat) (w : World) (hf : RepBlks w base (.slice p bks.length c) bks) (hn : bks.length <= 8) (hl : ∀ b ∈ bks, b.values.length <= 100000 /\ ∀ v ∈ b.values, v.num < 60) (ho : ¬ Code.Once noNumber bks) :
  Calls Tryz.prog 119 #[.agg #[.int .i64 (args : Nat), .slice p bks.length c]] w fun e w' => FailsB w e w' := by
 have HF := hide hf
 obtain ⟨p', c', hpe, hblk⟩ := hf.open
 simp only [Value.slice.injEq] at hpe
 obtain ⟨rfl, _, rfl⟩ := hpe
 have HBLK := hide hblk
 have HL := hide hl
 have HO := hide ho
 clear hblk hf hl ho
 go_enter Tryz.func119, Tryz.ntmps119
 go_wp2
 generalize hw0 : (w.alloc _).alloc _ = w0
 have hr0 : setRow w0 (w.heap.size + 1) noNumber := by
  have h := heap_alloc_new (w.alloc (.cells #[.int .i64 (args : Nat), .slice p bks.length c] 78)) (.cells (setA noNumber) 281)
  rw [alloc_size] at h
  rw [<- hw0]; exact h
 have hx0 : w0.heap[w.heap.size]? = some (.cells #[.int .i64 (args : Nat), .slice p bks.length c] 78) := by rw [<- hw0]; exact stay_alloc (heap_alloc_new w _)
 have hb0 : Below w.heap.size w w0 := by rw [<- hw0]; exact below_al (below_al (Below.refl _ _) _) _
 clear hw0
 go_loopw [10] (fun i wr => ∃ (j : Nat) (R : List Bool), j <= bks.length /\ i = .int .i64 j /\ R.length = 60 /\ setRow wr (w.heap.size + 1) R /\ wr.heap[w.heap.size]? = some (.cells #[.int .i64 (args : Nat), .slice p bks.length c] 78) /\ Below w.heap.size w wr /\ Hid (¬ Code.Once R (bks.drop j))) (fun i _ => bks.length - (intOf i).toNat)
 case atStart => exact ⟨0, noNumber, by omega, rfl, rfl, hr0, hx0, hb0, HO⟩
 case round =>
  obtain ⟨j, R, hj, rfl, hR, hrow, hxr, hbw, hsp⟩ := hrel
  clear hr0 hb0 HO hx0
  have hz := hbw.size
  by_cases hlt : j < bks.length
  ·obtain ⟨g, vs, rfl, hg, c0, c1, hvs⟩ := HBLK.out j hlt
   obtain ⟨hlen, hnum⟩ := HL.out bks[j] (List.getElem_mem hlt)
   have hO : ¬ (Code.Fresh R bks[j].values /\ Code.Once (Code.addAll R bks[j].values) (bks.drop (j + 1))) := by
    have h := hsp.out
    rw [List.drop_eq_getElem_cons hlt] at h
    exact h
   obtain ⟨pv, cv, rfl, hval⟩ := hvs.open
   have c0' : wr.cell? ⟨g, j * 2, none⟩ = some (.slice pv bks[j].values.length cv) := by rw [(bcell hbw).1 g _ hg]; exact c0
   obtain ⟨T, zv, hzv⟩ := lastV_shape bks[j].last
   have c1' : wr.cell? ⟨g, j * 2 + 1, none⟩ = some (.iface T zv) := by rw [(bcell hbw).1 g _ hg, <- hzv]; exact c1
   generalize bks[j].values = vals at *
   have HV := hide hval
   have HON := hide hO
   have HNUM := hide hnum
   clear hval c0 c1 hvs hzv hsp hO hnum
   go_wp2_with fail
   generalize hw3 : wr.alloc _ = w3
   have hb3 : Below w.heap.size w w3 := by rw [<- hw3]; exact below_al hbw _
   have hrow3 : setRow w3 (w.heap.size + 1) R := by rw [<- hw3]; exact stay_alloc hrow
   have hx3 : w3.heap[w.heap.size]? = some (.cells #[.int .i64 (args : Nat), .slice (some ⟨g, 0, none⟩) bks.length c] 78) := by rw [<- hw3]; exact stay_alloc hxr
   clear hw3 c0' c1' hxr
   rename World => wo
   go_loopw [18] (fun i ws => ∃ (k : Nat) (S : List Bool), k <= vals.length /\ i = .int .i64 k /\ S.length = 60 /\ setRow ws (w.heap.size + 1) S /\ ws.heap[w.heap.size]? = some (.cells #[.int .i64 (args : Nat), .slice (some ⟨g, 0, none⟩) bks.length c] 78) /\ Below w.heap.size w ws /\ Hid (¬ (Code.Fresh S (vals.drop k) /\ Code.Once (Code.addAll S (vals.drop k)) (bks.drop (j + 1))))) (fun i _ => vals.length - (intOf i).toNat)
   case atStart => exact ⟨0, R, by omega, rfl, hR, hrow3, hx3, hb3, HON⟩
   case round =>
    obtain ⟨k, S, hk, rfl, hS, hrw, hxs, hbs, hsp⟩ := hrel
    clear hrow3 hb3 hrow HON hx3
    have hzs := hbs.size
    by_cases hkt : k < vals.length
    ·obtain ⟨g2, th, rfl, hg2, d0, d1, hth⟩ := HV.out k hkt
     obtain ⟨T', tv, rfl⟩ := hth.shape
     have d0' : wr.cell? ⟨g2, k * 2, none⟩ = some (.int .i64 (vals[k].num : Nat)) := by rw [(bcell hbs).1 g2 _ hg2]; exact d0
     have d1' : wr.cell? ⟨g2, k * 2 + 1, none⟩ = some (.iface T' tv) := by rw [(bcell hbs).1 g2 _ hg2]; exact d1
     have hx60 := HNUM.out vals[k] (List.getElem_mem hkt)
     have hF := hsp.out
     rw [List.drop_eq_getElem_cons hkt] at hF
     have HN : Hid (S.getD vals[k].num false = false -> ¬ (Code.Fresh (S.set vals[k].num true) (vals.drop (k + 1)) /\ Code.Once (Code.addAll (S.set vals[k].num true) (vals.drop (k + 1))) (bks.drop (j + 1)))) :=
      hide fun hfalse h => hF ⟨Code.Fresh.cons hfalse (by omega) h.1, h.2⟩
     clear hF hth d0 d1 hsp
     generalize vals[k].num = x at *
     have hcx0 := hrw.cell x (by omega)
     have hgd : S.getD x false = S[x]'(by omega) := by rw [List.getD_eq_getElem?_getD, List.getElem?_eq_getElem (by omega)]; rfl
     rw [hgd] at HN
     have hfx := blk_froz hrw x
     have hx' : (x : Int) < 60 := by omega
     have hl1 := lt_of_block hrw
     have hl2 := lt_of_block hxs
     generalize S[x]'(by omega) = sx at *
     clear hgd
     cases sx with
     | false =>
      go_wp2
      exact ⟨⟨k + 1, S.set x true, by omega, by go_num, by simp [hS], stay_alloc (hrw.set x true), stay_alloc (stay_set hxs (by simp)), below_al (below_set hbs (by omega) _ _) _, hide (HN.out rfl)⟩, by simp [intOf]; omega⟩
     | true =>
      clear HN
      have hxa := blk_cell hxs 0 _ rfl
      have hxb := blk_cell hxs 1 _ rfl
      go_wp2_with fail
      generalize hw9 : wr.alloc _ = w9
      have hb9 : Below w.heap.size w w9 := by rw [<- hw9]; exact below_al hbs _
      clear hw9
      refine (fail_form args bks (some ⟨g, 0, none⟩) c base w9 (HF.out.below hb9) hn (fun b hb => (HL.out b hb).1) j hlt k ⟨by omega, by omega⟩).mono ?_
      rintro e w10 ⟨⟨l, rfl⟩, hb10⟩
      go_wp2
      exact ⟨rfl, ⟨l, rfl⟩, hb9.trans (hb10.mono hb9.size)⟩
    ·have HA : Hid (¬ Code.Once S (bks.drop (j + 1))) := hide fun h => hsp.out (by
      rw [List.drop_of_length_le (by omega)]
      exact ⟨⟨by simp [Code.nums], by simp [Code.nums]⟩, h⟩)
     clear hsp
     go_wp2
     refine ⟨⟨j + 1, S, by omega, by go_num, hS, hrw, hxs, hbs, HA⟩, by simp [intOf]; omega⟩
  ·exact absurd (by rw [List.drop_of_length_le (by omega)]; trivial) hsp.out
theorem targets_no (args : Nat) (bks : List Code.Blk) (p : Option Addr) (c : Nat) (base : Nat) (w : World) (hf : RepBlks w base (.slice p bks.length c) bks) (hn : bks.length <= 8) (hl : ∀ b ∈ bks, b.values.length <= 100000) (ht : ¬ ∀ b ∈ bks, ∀ t ∈ Code.tg b.last, 1 <= t /\ t < bks.length) :
  Calls Tryz.prog 120 #[.agg #[.int .i64 (args : Nat), .slice p bks.length c]] w fun e w' => FailsB w e w' := by
 have HF := hide hf
 have HL := hide hl
 obtain ⟨p', c', hpe, hblk⟩ := hf.open
 simp only [Value.slice.injEq] at hpe
 obtain ⟨rfl, _, rfl⟩ := hpe
 have HBLK := hide hblk
 have HTG := hide ht
 clear hblk hf ht hl
 go_enter Tryz.func120, Tryz.ntmps120
 go_wp2
 generalize hw0 : w.alloc _ = w0
 have hx0 : w0.heap[w.heap.size]? = some (.cells #[.int .i64 (args : Nat), .slice p bks.length c] 78) := by rw [<- hw0]; exact heap_alloc_new w _
 have hb0 : Below w.heap.size w w0 := by rw [<- hw0]; exact below_al (Below.refl _ _) _
 clear hw0
 go_loopw [9] (fun i wr => ∃ j : Nat, j <= bks.length /\ i = .int .i64 j /\ wr.heap[w.heap.size]? = some (.cells #[.int .i64 (args : Nat), .slice p bks.length c] 78) /\ Below w.heap.size w wr /\ Hid (¬ ∀ b ∈ bks.drop j, ∀ t ∈ Code.tg b.last, 1 <= t /\ t < bks.length)) (fun i _ => bks.length - (intOf i).toNat)
 case atStart => exact ⟨0, by omega, rfl, hx0, hb0, HTG⟩
 case round =>
  obtain ⟨j, hj, rfl, hx, hbw, hsp⟩ := hrel
  clear hx0 hb0 HTG
  have hz := hbw.size
  have hzx := lt_of_block hx
  by_cases hlt : j < bks.length
  ·obtain ⟨g, vs, rfl, hg, c0, c1, hvs⟩ := HBLK.out j hlt
   obtain ⟨pv, cv, rfl, hval⟩ := hvs.open
   clear hval
   have c0' : wr.cell? ⟨g, j * 2, none⟩ = some (.slice pv bks[j].values.length cv) := by rw [(bcell hbw).1 g _ hg]; exact c0
   have c1' : wr.cell? ⟨g, j * 2 + 1, none⟩ = some (lastV bks[j].last) := by rw [(bcell hbw).1 g _ hg]; exact c1
   have HTA := hide (targets_any bks[j].last)
   have HSJ : Hid (¬ ((∀ t ∈ Code.tg bks[j].last, 1 <= t /\ t < bks.length) /\ ∀ b ∈ bks.drop (j + 1), ∀ t ∈ Code.tg b.last, 1 <= t /\ t < bks.length)) := hide fun h => hsp.out (by
    rw [List.drop_eq_getElem_cons hlt]
    intro b hb
    rcases List.mem_cons.1 hb with rfl | hb
    ·exact h.1
    ·exact h.2 b hb)
   have htl := Code.tg_length bks[j].last
   generalize Code.tg bks[j].last = tl at *
   obtain ⟨T, zv, hzv⟩ := lastV_shape bks[j].last
   rw [hzv] at c1' HTA
   clear c0 c1 hvs hzv hsp
   generalize bks[j].values.length = vl at *
   go_wp2_with fail
   generalize hw3 : wr.alloc _ = w3
   have hb3 : Below w.heap.size w w3 := by rw [<- hw3]; exact below_al hbw _
   have hx3 : w3.heap[w.heap.size]? = some (.cells #[.int .i64 (args : Nat), .slice (some ⟨g, 0, none⟩) bks.length c] 78) := by rw [<- hw3]; exact stay_alloc hx
   clear hw3 c0' c1'
   refine (HTA.out w3).mono ?_
   rintro e w4 ⟨v4, rfl, hown4, hb4⟩
   have hx4 := (hb4.block _ (lt_of_block hx3)).trans hx3
   have hbw4 : Below w.heap.size w w4 := hb3.trans (hb4.mono hb3.size)
   clear hb3 hb4 hx3
   obtain ⟨p4, c4, rfl, hval4⟩ := nats_open hown4
   have HV4 := hide hval4
   have hcx := blk_cell hx4 1 _ rfl
   have hcx0 := blk_cell hx4 0 _ rfl
   clear hval4 hown4
   go_wp2_with fail
   go_loop [18] (fun i => ∃ k : Nat, k <= tl.length /\ i = .int .i64 k /\ Hid (¬ ((∀ t ∈ tl.drop k, 1 <= t /\ t < bks.length) /\ ∀ b ∈ bks.drop (j + 1), ∀ t ∈ Code.tg b.last, 1 <= t /\ t < bks.length))) (fun i => tl.length - (intOf i).toNat)
   case atStart => exact ⟨0, by omega, rfl, HSJ⟩
   case round =>
    obtain ⟨k, hk, rfl, hsp⟩ := hrel
    clear HSJ
    by_cases hkt : k < tl.length
    ·obtain ⟨g4, rfl, ct⟩ := HV4.out k hkt
     by_cases hgood : 1 <= tl[k] /\ tl[k] < bks.length
     ·obtain ⟨t1, t2⟩ := hgood
      have t1' : ¬ (tl[k] : Int) < 1 := by omega
      have t2' : (tl[k] : Int) < (bks.length : Int) := by omega
      have HN : Hid (¬ ((∀ t ∈ tl.drop (k + 1), 1 <= t /\ t < bks.length) /\ ∀ b ∈ bks.drop (j + 1), ∀ t ∈ Code.tg b.last, 1 <= t /\ t < bks.length)) := hide fun h => hsp.out ⟨by
       rw [List.drop_eq_getElem_cons hkt]
       intro t ht
       rcases List.mem_cons.1 ht with rfl | ht
       ·exact ⟨t1, t2⟩
       ·exact h.1 t ht, h.2⟩
      clear HV4 hsp
      go_wp2
      exact ⟨⟨k + 1, by omega, by go_num, HN⟩, by simp [intOf]; omega⟩
     ·clear HV4 hsp
      have hcall := hide (failLast_form args bks (some ⟨g, 0, none⟩) c base w4 (HF.out.below hbw4) hn HL.out j hlt)
      by_cases t1 : (tl[k] : Int) < 1
      ·clear hgood
       go_wp2_with fail
       refine hcall.out.mono ?_
       rintro e w10 ⟨⟨l, rfl⟩, hb10⟩
       go_wp2
       exact ⟨rfl, ⟨l, rfl⟩, hbw4.trans (hb10.mono hbw4.size)⟩
      ·have t2 : ¬ (tl[k] : Int) < (bks.length : Int) := fun h => hgood ⟨by omega, by omega⟩
       clear hgood
       go_wp2_with fail
       refine hcall.out.mono ?_
       rintro e w10 ⟨⟨l, rfl⟩, hb10⟩
       go_wp2
       exact ⟨rfl, ⟨l, rfl⟩, hbw4.trans (hb10.mono hbw4.size)⟩
    ·have HA : Hid (¬ ∀ b ∈ bks.drop (j + 1), ∀ t ∈ Code.tg b.last, 1 <= t /\ t < bks.length) := hide fun h => hsp.out ⟨by rw [List.drop_of_length_le (by omega)]; simp, h⟩
     clear hsp
     go_wp2
     exact ⟨⟨j + 1, by omega, by go_num, hx4, hbw4, HA⟩, by simp [intOf]; omega⟩
  ·exact absurd (by rw [List.drop_of_length_le (by omega)]; simp) hsp.out
theorem reached_no (args : Nat) (bks : List Code.Blk) (p : Option Addr) (c : Nat) (base : Nat) (w : World) (hf : RepBlks w base (.slice p bks.length c) bks) (hn : bks.length <= 8) (hn0 : 0 < bks.length) (hl : ∀ b ∈ bks, b.values.length <= 100000) (ht : ∀ b ∈ bks, ∀ t ∈ Code.tg b.last, t < bks.length)
  (hr : ¬ Code.reachF 9 (Code.tgs bks) (List.replicate bks.length false) 0 = List.replicate bks.length true) :
  Calls Tryz.prog 121 #[.agg #[.int .i64 (args : Nat), .slice p bks.length c]] w fun e w' => FailsB w e w' := by
 obtain ⟨i0, hi, hi0, hi1, hi2⟩ := info_parts infoBool
 have HF := hide hf
 have HTG := hide ht
 have HR := hide hr
 have HL := hide hl
 clear hf ht hr hl
 go_enter Tryz.func121, Tryz.ntmps121
 go_wp2_with (first | (at_make; refine wpList_make_full _ rfl _ _ 181 rfl w.heap.size 4 i0 (.bool false) 1 Tryz.underlying181 hi hi0 hi1 .i64 .i64 _ _ bks.length rfl rfl rfl rfl (by rw [hi2]; omega) (by unfold maxLen; omega) (by simp) ?_; intro w2 hown2 hgrow2; have hnr2 := boolRow_made hown2; rw [alloc_size] at hnr2; have hbx : w2.heap[w.heap.size]? = some (.cells #[.int .i64 (args : Nat), .slice p bks.length c] 78) := (hgrow2.block _ (by simp) (by simp)).trans (heap_alloc_new w _); have hc0 := blk_cell hbx 0 _ rfl; have hc1 := blk_cell hbx 1 _ rfl) | fail)
 have hb2 : Below w.heap.size w w2 := by
  have h := below_al (Below.refl w.heap.size w) (.cells #[.int .i64 (args : Nat), .slice p bks.length c] 78)
  exact h.trans ⟨hgrow2.os, hgrow2.tape, hgrow2.output, hgrow2.size, fun k hk => hgrow2.block k (by simp; omega) (by simp)⟩
 have hfl : Code.falses (List.replicate bks.length false) < 9 := by
  have : Code.falses (List.replicate bks.length false) = bks.length := by rw [Code.falses, List.countP_replicate]; rfl
  omega
 have hfac := (Code.reachF_facts 9 (Code.tgs bks) (List.replicate bks.length false) 0).1
 refine (reach_any args bks p c base (w.heap.size + 1) HTG.out 9 (List.replicate bks.length false) 0 w2 (HF.out.below hb2) (by simp) hn0 hfl hnr2).mono ?_
 generalize Code.reachF 9 (Code.tgs bks) (List.replicate bks.length false) 0 = RR at *
 rintro e w3 ⟨rfl, hrow3, hg3⟩
 have hb3 : Below w.heap.size w w3 := hb2.trans ⟨hg3.os, hg3.tape, hg3.output, hg3.size, fun k hk => hg3.block k (by have := hb2.size; omega) (by simp; omega)⟩
 have hbx3 := kept_block hbx hg3 (by omega)
 have hxa := blk_cell hbx3 0 _ rfl
 have hxb := blk_cell hbx3 1 _ rfl
 have hz3 := lt_of_block hbx3
 have hRl : RR.length = bks.length := by rw [hfac]; simp
 clear hown2 hgrow2 hnr2 hbx hc0 hc1 hb2 hfl hg3 hfac
 go_wp2_with fail
 go_loop [13] (fun i => ∃ k : Nat, k <= bks.length /\ i = .int .i64 k /\ Hid (∀ q (h : q < RR.length), q < k -> RR[q] = true)) (fun i => bks.length - (intOf i).toNat)
 case atStart => exact ⟨0, by omega, rfl, hide fun q h h' => by omega⟩
 case round =>
  obtain ⟨k, hk, rfl, hsp⟩ := hrel
  by_cases hkt : k < bks.length
  ·have hc := hrow3.cell k (by omega)
   have HN : Hid (RR[k]'(by omega) = true -> ∀ q (h : q < RR.length), q < k + 1 -> RR[q] = true) := hide fun e q h h' => by
    by_cases hqk : q < k
    ·exact hsp.out q h hqk
    ·obtain rfl : q = k := by omega
     exact e
   generalize RR[k]'(by omega) = sx at *
   clear hsp
   cases sx with
   | true =>
    go_wp2
    exact ⟨⟨k + 1, by omega, by go_num, hide (HN.out rfl)⟩, by simp [intOf]; omega⟩
   | false =>
    clear HN
    go_wp2_with fail
    refine (fail_form args bks p c base w3 (HF.out.below hb3) hn HL.out k hkt (-1) ⟨by omega, by omega⟩).mono ?_
    rintro e w10 ⟨⟨l, rfl⟩, hb10⟩
    go_wp2
    exact ⟨rfl, ⟨l, rfl⟩, hb3.trans (hb10.mono hb3.size)⟩
  ·refine absurd ?_ HR.out
   apply List.ext_getElem
   ·rw [hRl]; simp
   ·intro q h1 h2
    rw [hsp.out q h1 (by omega)]; simp
theorem phis_no (args : Nat) (bks : List Code.Blk) (p : Option Addr) (c : Nat) (base : Nat) (w : World) (hf : RepBlks w base (.slice p bks.length c) bks) (hn : bks.length <= 8) (hl : ∀ b ∈ bks, b.values.length <= 100000) (ht : ∀ b ∈ bks, ∀ t ∈ Code.tg b.last, t < bks.length) (hp : ¬ Code.PhisOk bks) :
  Calls Tryz.prog 122 #[.agg #[.int .i64 (args : Nat), .slice p bks.length c]] w fun e w' => FailsB w e w' := by
 have HF := hide hf
 have HTG := hide ht
 have HL := hide hl
 have HP := hide hp
 clear ht hl hp
 go_enter Tryz.func122, Tryz.ntmps122
 go_wp2_with fail
 generalize hw0 : w.alloc _ = w0
 have hx0 : w0.heap[w.heap.size]? = some (.cells #[.int .i64 (args : Nat), .slice p bks.length c] 78) := by rw [<- hw0]; exact heap_alloc_new w _
 have hb0 : Below w.heap.size w w0 := by rw [<- hw0]; exact below_al (Below.refl _ _) _
 clear hw0
 refine (edges_any args bks p c base w0 (HF.out.below hb0) hn HTG.out).mono ?_
 rintro e w1 ⟨mb, g, n, rfl, hmb, hgm, hE, hnr, hb1⟩
 have hx1 := (hb1.block _ (lt_of_block hx0)).trans hx0
 have hbw1 : Below w.heap.size w w1 := hb0.trans (hb1.mono hb0.size)
 have hz0 := hb0.size
 have hcn := Code.edges_length bks
 have HP' : Hid (¬ ∀ j (h : j < bks.length), ∀ v ∈ bks[j].values, ∀ of, v.thing = .phi of -> j ≠ 0 /\ of.length = (Code.edges bks).counts.getD j 0) := HP
 generalize (Code.edges bks).counts = C at *
 have hcx := blk_cell hx1 1 _ rfl
 clear hE hx0 hb0 hb1 HP
 obtain ⟨p', c', hpe, hblk⟩ := hf.open
 simp only [Value.slice.injEq] at hpe
 obtain ⟨rfl, _, rfl⟩ := hpe
 have HBLK := hide hblk
 clear hblk hf
 go_wp2_with fail
 clear hcx
 go_loopw [18] (fun i wr => ∃ j : Nat, j <= bks.length /\ i = .int .i64 j /\ natRow wr g C /\ wr.heap[w.heap.size]? = some (.cells #[.int .i64 (args : Nat), .slice p bks.length c] 78) /\ Below w.heap.size w wr /\ Hid (∀ j' (h : j' < bks.length), j' < j -> ∀ v ∈ bks[j'].values, ∀ of, v.thing = .phi of -> j' ≠ 0 /\ of.length = C.getD j' 0)) (fun i _ => bks.length - (intOf i).toNat)
 case atStart => exact ⟨0, by omega, rfl, hnr, hx1, hbw1, hide fun j' h h' => by omega⟩
 case round =>
  obtain ⟨j, hj, rfl, hrw, hxr, hbw, hsp⟩ := hrel
  clear hnr hbw1 hx1
  have hz := hbw.size
  have hgl := lt_of_block hrw
  by_cases hlt : j < bks.length
  ·obtain ⟨gb, vs, rfl, hg, c0, c1, hvs⟩ := HBLK.out j hlt
   have hlen := HL.out bks[j] (List.getElem_mem hlt)
   have HNJ : Hid ((∀ v ∈ bks[j].values, ∀ of, v.thing = .phi of -> j ≠ 0 /\ of.length = C.getD j 0) -> ∀ j' (h : j' < bks.length), j' < j + 1 -> ∀ v ∈ bks[j'].values, ∀ of, v.thing = .phi of -> j' ≠ 0 /\ of.length = C.getD j' 0) := hide fun e j' h h' => by
    by_cases hq : j' < j
    ·exact hsp.out j' h hq
    ·obtain rfl : j' = j := by omega
     exact e
   have hgd : C.getD j 0 = C[j]'(by omega) := by rw [List.getD_eq_getElem?_getD, List.getElem?_eq_getElem (by omega)]; rfl
   obtain ⟨pv, cv, rfl, hval⟩ := hvs.open
   have c0' : wr.cell? ⟨gb, j * 2, none⟩ = some (.slice pv bks[j].values.length cv) := by rw [(bcell hbw).1 gb _ hg]; exact c0
   obtain ⟨T, zv, hzv⟩ := lastV_shape bks[j].last
   have c1' : wr.cell? ⟨gb, j * 2 + 1, none⟩ = some (.iface T zv) := by rw [(bcell hbw).1 gb _ hg, <- hzv]; exact c1
   generalize bks[j].values = vals at *
   have HV := hide hval
   clear hval c0 c1 hvs hzv hsp
   go_wp2_with fail
   generalize hw3 : wr.alloc _ = w3
   have hb3 : Below w.heap.size w w3 := by rw [<- hw3]; exact below_al hbw _
   have hrow3 : natRow w3 g C := by rw [<- hw3]; exact stay_alloc hrw
   have hx3 : w3.heap[w.heap.size]? = some (.cells #[.int .i64 (args : Nat), .slice (some ⟨gb, 0, none⟩) bks.length c] 78) := by rw [<- hw3]; exact stay_alloc hxr
   clear hw3 c0' c1' hrw hxr
   rename World => wo
   go_loopw [26] (fun i ws => ∃ k : Nat, k <= vals.length /\ i = .int .i64 k /\ natRow ws g C /\ ws.heap[w.heap.size]? = some (.cells #[.int .i64 (args : Nat), .slice (some ⟨gb, 0, none⟩) bks.length c] 78) /\ Below w.heap.size w ws /\ Hid (∀ k' (h : k' < vals.length), k' < k -> ∀ of, vals[k'].thing = .phi of -> j ≠ 0 /\ of.length = C.getD j 0)) (fun i _ => vals.length - (intOf i).toNat)
   case atStart => exact ⟨0, by omega, rfl, hrow3, hx3, hb3, hide fun k' h h' => by omega⟩
   case round =>
    obtain ⟨k, hk, rfl, hrw, hxs, hbs, hsp⟩ := hrel
    clear hrow3 hb3 hx3
    have hzs := hbs.size
    by_cases hkt : k < vals.length
    ·obtain ⟨g2, th, rfl, hg2, d0, d1, hth⟩ := HV.out k hkt
     have HPK : Hid ((∀ of, vals[k].thing = .phi of -> j ≠ 0 /\ of.length = C.getD j 0) -> ∀ k' (h : k' < vals.length), k' < k + 1 -> ∀ of, vals[k'].thing = .phi of -> j ≠ 0 /\ of.length = C.getD j 0) := hide fun e k' h h' => by
      by_cases hq : k' < k
      ·exact hsp.out k' h hq
      ·obtain rfl : k' = k := by omega
       exact e
     clear hsp
     have d0' : wr.cell? ⟨g2, k * 2, none⟩ = some (.int .i64 (vals[k].num : Nat)) := by rw [(bcell hbs).1 g2 _ hg2]; exact d0
     have d1' : wr.cell? ⟨g2, k * 2 + 1, none⟩ = some th := by rw [(bcell hbs).1 g2 _ hg2]; exact d1
     have hth' : ThingV w base vals[k].thing th := hth
     generalize vals[k].thing = y at *
     generalize vals[k].num = x at *
     clear d0 d1
     have hcj := hrw.cell j (by omega)
     have hjl : (j : Int) < (bks.length : Int) := by omega
     have hl1 := lt_of_block hrw
     cases y with
     | phi of =>
      obtain ⟨r, rfl, hro⟩ := hth'
      obtain ⟨pr, cr, rfl⟩ := own_slice hro
      have hta := isPhi_phi
      have hlx := lt_of_block hxs
      by_cases hgood : j ≠ 0 /\ of.length = C[j]'(by omega)
      ·obtain ⟨hj0, hof⟩ := hgood
       have HN := hide (HPK.out (fun of' e => by cases e; exact ⟨hj0, by rw [hgd]; exact hof⟩))
       have hj0' : ((j : Int) == 0) = false := beq_eq_false_iff_ne.2 (by omega)
       have hof' : (((of.length : Nat) : Int) != ((C[j]'(by omega) : Nat) : Int)) = false := by rw [hof]; simp
       clear HPK
       go_wp2_with fail
       go_quiet (fail)
       go_wp2
       exact ⟨⟨k + 1, by omega, by go_num, stay_alloc (stay_alloc hrw), stay_alloc (stay_alloc hxs), belowN (below_al (below_al hbs _) _) _, HN⟩, by simp [intOf]; omega⟩
      ·clear HPK
       have HC : Hid (∀ w', Below w.heap.size w w' -> Calls Tryz.prog 161 #[.agg #[.int .i64 (args : Nat), .slice (some ⟨gb, 0, none⟩) bks.length c], .int .i64 (j : Nat), .int .i64 (k : Int)] w' fun e w'' => FailsB w' e w'') := hide fun w' h => fail_form args bks (some ⟨gb, 0, none⟩) c base w' (HF.out.below h) hn HL.out j hlt k ⟨by omega, by omega⟩
       by_cases hj0 : j = 0
       ·have hj0' : ((j : Int) == 0) = true := by rw [hj0]; rfl
        have HC0 : Hid (∀ w', Below w.heap.size w w' -> Calls Tryz.prog 161 #[.agg #[.int .i64 (args : Nat), .slice (some ⟨gb, 0, none⟩) bks.length c], .int .i64 0, .int .i64 (k : Int)] w' fun e w'' => FailsB w' e w'') := hide fun w' h => by
         have := HC.out w' h
         rw [hj0] at this
         exact this
        clear hgood
        go_wp2_with fail
        go_quiet (fail)
        generalize hw9 : World.drewN _ _ = w9
        have hb9 : Below w.heap.size w w9 := by rw [<- hw9]; exact belowN (below_al (below_al hbs _) _) _
        have hx9 : w9.heap[w.heap.size]? = some (.cells #[.int .i64 (args : Nat), .slice (some ⟨gb, 0, none⟩) bks.length c] 78) := by rw [<- hw9]; exact stay_alloc (stay_alloc hxs)
        have hxa := blk_cell hx9 0 _ rfl
        have hxb := blk_cell hx9 1 _ rfl
        clear hw9 hx9
        go_wp2_with fail
        refine (HC0.out w9 hb9).mono ?_
        rintro e w10 ⟨⟨l, rfl⟩, hb10⟩
        go_wp2
        exact ⟨rfl, ⟨l, rfl⟩, hb9.trans (hb10.mono hb9.size)⟩
       ·have hj0' : ((j : Int) == 0) = false := beq_eq_false_iff_ne.2 (by omega)
        have hof' : (((of.length : Nat) : Int) != ((C[j]'(by omega) : Nat) : Int)) = true := by
         have : of.length ≠ C[j]'(by omega) := fun e => hgood ⟨hj0, e⟩
         exact bne_iff_ne.2 (by omega)
        clear hgood
        go_wp2_with fail
        go_quiet (fail)
        generalize hw9 : World.drewN _ _ = w9
        have hb9 : Below w.heap.size w w9 := by rw [<- hw9]; exact belowN (below_al (below_al hbs _) _) _
        have hx9 : w9.heap[w.heap.size]? = some (.cells #[.int .i64 (args : Nat), .slice (some ⟨gb, 0, none⟩) bks.length c] 78) := by rw [<- hw9]; exact stay_alloc (stay_alloc hxs)
        have hxa := blk_cell hx9 0 _ rfl
        have hxb := blk_cell hx9 1 _ rfl
        clear hw9 hx9
        go_wp2_with fail
        refine (HC.out w9 hb9).mono ?_
        rintro e w10 ⟨⟨l, rfl⟩, hb10⟩
        go_wp2
        exact ⟨rfl, ⟨l, rfl⟩, hb9.trans (hb10.mono hb9.size)⟩
     | arg m =>
      have hth2 : th = _ := hth'
      subst hth2
      have hta := isPhi_arg
      have HN := hide (HPK.out (fun of' e => by cases e))
      clear HPK
      go_wp2_with fail
      go_quiet (fail)
      go_wp2
      exact ⟨⟨k + 1, by omega, by go_num, stay_alloc (stay_alloc hrw), stay_alloc (stay_alloc hxs), belowN (below_al (below_al hbs _) _) _, HN⟩, by simp [intOf]; omega⟩
     | const m =>
      have hth2 : th = _ := hth'
      subst hth2
      have hta := isPhi_const
      have HN := hide (HPK.out (fun of' e => by cases e))
      clear HPK
      go_wp2_with fail
      go_quiet (fail)
      go_wp2
      exact ⟨⟨k + 1, by omega, by go_num, stay_alloc (stay_alloc hrw), stay_alloc (stay_alloc hxs), belowN (below_al (below_al hbs _) _) _, HN⟩, by simp [intOf]; omega⟩
     | apply q of =>
      obtain ⟨r, rfl, hro⟩ := hth'
      obtain ⟨pr, cr, rfl⟩ := own_slice hro
      have hta := isPhi_apply
      have HN := hide (HPK.out (fun of' e => by cases e))
      clear HPK
      go_wp2_with fail
      go_quiet (fail)
      go_wp2
      exact ⟨⟨k + 1, by omega, by go_num, stay_alloc (stay_alloc hrw), stay_alloc (stay_alloc hxs), belowN (below_al (below_al hbs _) _) _, HN⟩, by simp [intOf]; omega⟩
    ·have HN := hide (HNJ.out (fun v hv of e => by
      obtain ⟨k', hk', rfl⟩ := List.getElem_of_mem hv
      exact hsp.out k' hk' (by omega) of e))
     clear hsp HNJ
     go_wp2
     exact ⟨⟨j + 1, by omega, by go_num, hrw, hxs, hbs, HN⟩, by simp [intOf]; omega⟩
  ·exact absurd (fun j' h => hsp.out j' h (by omega)) HP'.out
theorem phisMade_no (args : Nat) (bks : List Code.Blk) (p : Option Addr) (c : Nat) (base : Nat) (w : World) (hf : RepBlks w base (.slice p bks.length c) bks) (j : Nat) (hj : j < bks.length) (hn : bks.length <= 8) (hl : ∀ b ∈ bks, b.values.length <= 100000) (place : Nat) (R : List Bool) (hR : R.length = 60) (hof : ∀ v ∈ bks[j].values, ∀ of, v.thing = .phi of -> ∃ h : place < of.length, of[place] < 60) (hp : ¬ Code.PhisMade bks[j].values place R) :
  Calls Tryz.prog 168 #[.agg #[.int .i64 (args : Nat), .slice p bks.length c], .int .i64 (j : Nat), .int .i64 (place : Nat), .agg (setA R)] w fun e w' => FailsB w e w' := by
 have HF := hide hf
 have HL := hide hl
 have hlen := hl bks[j] (List.getElem_mem hj)
 obtain ⟨p', c', hpe, hblk⟩ := hf.open
 simp only [Value.slice.injEq] at hpe
 obtain ⟨rfl, _, rfl⟩ := hpe
 obtain ⟨gb, vs, rfl, hg, c0, c1, hvs⟩ := hblk j hj
 obtain ⟨pv, cv, rfl, hval⟩ := hvs.open
 have HP := hide hp
 have HOF := hide hof
 have HV := hide hval
 generalize bks[j].values = vals at *
 clear hblk hf hp hval hvs c1 hof hl
 have hjl : (j : Int) < (bks.length : Int) := by omega
 have hglt : gb < w.heap.size := hg
 go_enter Tryz.func168, Tryz.ntmps168
 go_wp2
 generalize hw0 : (w.alloc _).alloc _ = w0
 have hr0 : setRow w0 (w.heap.size + 1) R := by
  have h := heap_alloc_new (w.alloc (.cells #[.int .i64 (args : Nat), .slice (some ⟨gb, 0, none⟩) bks.length c] 78)) (.cells (setA R) 281)
  rw [alloc_size] at h
  rw [<- hw0]; exact h
 have hb0 : Below w.heap.size w w0 := by rw [<- hw0]; exact below_al (below_al (Below.refl _ _) _) _
 have hx0 : w0.heap[w.heap.size]? = some (.cells #[.int .i64 (args : Nat), .slice (some ⟨gb, 0, none⟩) bks.length c] 78) := by rw [<- hw0]; exact stay_alloc (heap_alloc_new w _)
 clear hw0
 go_loopw [19] (fun i wr => ∃ k : Nat, k <= vals.length /\ i = .int .i64 k /\ setRow wr (w.heap.size + 1) R /\ wr.heap[w.heap.size]? = some (.cells #[.int .i64 (args : Nat), .slice (some ⟨gb, 0, none⟩) bks.length c] 78) /\ Below w.heap.size w wr /\ Hid (¬ Code.PhisMade (vals.drop k) place R)) (fun i _ => vals.length - (intOf i).toNat)
 case atStart => exact ⟨0, by omega, rfl, hr0, hx0, hb0, HP⟩
 case round =>
  obtain ⟨k, hk, rfl, hrw, hxr, hbw, hsp⟩ := hrel
  clear hr0 hb0 hx0 HP
  have hz := hbw.size
  by_cases hkt : k < vals.length
  ·obtain ⟨g2, th, rfl, hg2, d0, d1, hth⟩ := HV.out k hkt
   have HPK : Hid ((∀ of, vals[k].thing = .phi of -> ∃ h : place < of.length, of[place] < 60 /\ R.getD of[place] false = true) -> ¬ Code.PhisMade (vals.drop (k + 1)) place R) := hide fun e h => hsp.out (by
    rw [List.drop_eq_getElem_cons hkt]
    intro v hv
    rcases List.mem_cons.1 hv with rfl | hv
    ·exact e
    ·exact h v hv)
   have HOK := hide (HOF.out vals[k] (List.getElem_mem hkt))
   have hlx := lt_of_block hxr
   clear hsp
   have d0' : wr.cell? ⟨g2, k * 2, none⟩ = some (.int .i64 (vals[k].num : Nat)) := by rw [(bcell hbw).1 g2 _ hg2]; exact d0
   have d1' : wr.cell? ⟨g2, k * 2 + 1, none⟩ = some th := by rw [(bcell hbw).1 g2 _ hg2]; exact d1
   have hth' : ThingV w base vals[k].thing th := hth
   generalize vals[k].thing = y at *
   generalize vals[k].num = x at *
   clear d0 d1 hth
   have hl1 := lt_of_block hrw
   cases y with
   | phi of =>
    obtain ⟨r, rfl, hro⟩ := hth'
    obtain ⟨pr, cr, rfl, hvv⟩ := nats_open hro
    obtain ⟨hpo, hp60⟩ := HOK.out of rfl
    obtain ⟨g3, rfl, e0⟩ := hvv place hpo
    have hg3 : g3 < w.heap.size := by
     cases hh : w.heap[g3]? with
     | none => simp [World.cell?, hh] at e0
     | some o => exact lt_of_block hh
    have e0' : wr.cell? ⟨g3, place, none⟩ = some (.int .i64 (of[place] : Nat)) := by rw [(bcell hbw).1 g3 _ hg3]; exact e0
    have hcx0 := hrw.cell of[place] (by omega)
    have hgd : R.getD of[place] false = R[of[place]]'(by omega) := by rw [List.getD_eq_getElem?_getD, List.getElem?_eq_getElem (by omega)]; rfl
    have HPK2 : Hid (R[of[place]]'(by omega) = true -> ¬ Code.PhisMade (vals.drop (k + 1)) place R) := hide fun e => HPK.out fun of' e' => by
     cases e'
     exact ⟨hpo, hp60, by rw [hgd]; exact e⟩
    have hg3' : g3 < wr.heap.size := by omega
    have hz' : w.heap.size < wr.heap.size := by omega
    have hpl' : (place : Int) < (of.length : Int) := by omega
    have hx60 : ((of[place] : Nat) : Int) < 60 := by omega
    have hta := isPhi_phi
    clear hvv hro e0 HPK HOK hgd
    generalize R[of[place]]'(by omega) = sx at *
    generalize of[place] = q at *
    cases sx with
    | true =>
     go_wp2
     exact ⟨⟨k + 1, by omega, by go_num, stay_alloc (stay_alloc hrw), stay_alloc (stay_alloc hxr), below_al (below_al hbw _) _, hide (HPK2.out rfl)⟩, by simp [intOf]; omega⟩
    | false =>
     have HC : Hid (∀ w', Below w.heap.size w w' -> Calls Tryz.prog 161 #[.agg #[.int .i64 (args : Nat), .slice (some ⟨gb, 0, none⟩) bks.length c], .int .i64 (j : Nat), .int .i64 (k : Int)] w' fun e w'' => FailsB w' e w'') := hide fun w' h => fail_form args bks (some ⟨gb, 0, none⟩) c base w' (HF.out.below h) hn HL.out j hj k ⟨by omega, by omega⟩
     clear HPK2
     have hxa := blk_cell hxr 0 _ rfl
     have hxb := blk_cell hxr 1 _ rfl
     go_wp2_with fail
     generalize hw9 : (wr.alloc _).alloc _ = w9
     have hb9 : Below w.heap.size w w9 := by rw [<- hw9]; exact below_al (below_al hbw _) _
     clear hw9
     refine (HC.out w9 hb9).mono ?_
     rintro e w10 ⟨⟨l, rfl⟩, hb10⟩
     go_wp2
     exact ⟨rfl, ⟨l, rfl⟩, hb9.trans (hb10.mono hb9.size)⟩
   | arg m =>
    have hth2 : th = _ := hth'
    subst hth2
    have hta := isPhi_arg
    have HN := hide (HPK.out (fun of' e => by cases e))
    clear HPK HOK
    go_wp2
    exact ⟨⟨k + 1, by omega, by go_num, stay_alloc (stay_alloc hrw), stay_alloc (stay_alloc hxr), below_al (below_al hbw _) _, HN⟩, by simp [intOf]; omega⟩
   | const m =>
    have hth2 : th = _ := hth'
    subst hth2
    have hta := isPhi_const
    have HN := hide (HPK.out (fun of' e => by cases e))
    clear HPK HOK
    go_wp2
    exact ⟨⟨k + 1, by omega, by go_num, stay_alloc (stay_alloc hrw), stay_alloc (stay_alloc hxr), below_al (below_al hbw _) _, HN⟩, by simp [intOf]; omega⟩
   | apply m of =>
    obtain ⟨r, rfl, hro⟩ := hth'
    obtain ⟨pr, cr, rfl⟩ := own_slice hro
    have hta := isPhi_apply
    have HN := hide (HPK.out (fun of' e => by cases e))
    clear HPK HOK
    go_wp2
    exact ⟨⟨k + 1, by omega, by go_num, stay_alloc (stay_alloc hrw), stay_alloc (stay_alloc hxr), below_al (below_al hbw _) _, HN⟩, by simp [intOf]; omega⟩
  ·exact absurd (by rw [List.drop_of_length_le (by omega)]; intro v hv; simp at hv) hsp.out
end Go.Proofs.YtedkjanogjglkaaGreatDoor
