/-
  Parts of the proof: KMade, SdSound, RwSweep, SdFold.
-/
import Derived.Test.YtedkjanogjglkaaGreatDoorP21
import Derived.Test.YtedkjanogjglkaaGreatDoorP27
import Derived.Test.YtedkjanogjglkaaGreatDoorP09
import Derived.Test.YtedkjanogjglkaaGreatDoorP26
set_option maxRecDepth 100000
set_option maxHeartbeats 4000000
namespace Go.Proofs.YtedkjanogjglkaaGreatDoor
open Go.RowKit
open Go.Proofs.YtedkjanogjglkaaGreatDoor.Ref (dec ch digits)
theorem made_any (acts : List (Int × Int × Int)) (p : Option Addr) (cap : Nat) (x y : Int) (w : World) (ha : ActsAt w p acts) (hin : ∀ a ∈ acts, In64 a.1 /\ In64 a.2.1 /\ In64 a.2.2)
  (hx : -2147483648 <= x /\ x < 2147483648) (hy : -2147483648 <= y /\ y < 2147483648) (hal : acts.length <= 9223372036854775807) :
  Calls Tryz.prog 24 #[.slice p acts.length cap, .int .i64 x, .int .i64 y] w fun e w' =>
   ∃ l out, e = .returned (.tuple #[.string (bs (madeText l)), .int .i64 (out.getD (l.length - 1) 0)]) /\ MadeOk x y l out (min acts.length 40) /\ Below w.heap.size w w' := by
 obtain ⟨i0, hi, hz0, hz1, hz2⟩ := info_parts infoInt
 have HA := hide ha
 have HIN := hide hin
 have HX := hide hx
 have HY := hide hy
 clear ha hin hx hy
 go_enter Tryz.func24, Tryz.ntmps24
 go_wp2
 go_loopw [8, 9, 10] (fun a b c wr => ∃ (i : Nat) (l : List Code.Val) (out : List Int), i <= acts.length /\ i <= 40 /\ a = .string (bs (hdr ++ Code.linesOf l)) /\ c = .int .i64 (i : Nat) /\ wr.ownsRow w.heap.size 3 1 b (i + 2) (ints out) /\ Hid (out.length = i + 2) /\ Below w.heap.size w wr /\ Hid (MadeOk x y l out i))
  (fun _ _ c _ => 40 - (intOf c).toNat)
 case atStart => exact ⟨0, [⟨0, .arg 0⟩, ⟨1, .arg 1⟩], [x, y], by omega, by omega, by rw [hdr_two], rfl, own_ints2 w x y rfl (Nat.le_refl _), hide rfl, (Below.refl _ _).alloc (Nat.le_refl _) _, hide (MadeOk.start HX.out HY.out)⟩
 case round =>
  obtain ⟨i, l, out, hi1, hi2, rfl, rfl, hown, hol, hbel, hok⟩ := hrel
  obtain ⟨pv, cv, rfl⟩ := own_slice hown
  have hts := hok.out.text
  have hbz := bs_size (hdr ++ Code.linesOf l)
  rw [<- hbz] at hts
  clear hbz
  generalize hT : bs (hdr ++ Code.linesOf l) = t at *
  have HT := hide hT
  clear hT
  by_cases hgo : i < acts.length /\ i < 40
  ·obtain ⟨hia, hi40⟩ := hgo
   obtain ⟨g, o, rfl, hg, c0, c1, c2⟩ := HA.out i hia
   obtain ⟨hk, hka, hkb⟩ := HIN.out _ (List.getElem_mem hia)
   rcases hact : acts[i] with ⟨k, a, b⟩
   rw [hact] at c0 c1 c2 hk hka hkb
   have HACT := hide hact
   clear hact
   dsimp only at c0 c1 c2 hk hka hkb
   have d0 := ((bcell hbel).1 g _ hg).trans c0
   have d1 := ((bcell hbel).1 g _ hg).trans c1
   have d2 := ((bcell hbel).1 g _ hg).trans c2
   clear c0 c1 c2
   go_wp2_with fail
   generalize hw1 : wr.alloc _ = w1
   have hx1 : w1.heap[wr.heap.size]? = some (.cells #[.int .i64 k, .int .i64 a, .int .i64 b] 100) := by rw [<- hw1]; exact heap_alloc_new wr _
   have hb1 : Below w.heap.size w w1 := by rw [<- hw1]; exact below_al hbel _
   have hown1 : w1.ownsRow w.heap.size 3 1 (.slice pv (i + 2) cv) (i + 2) (ints out) := by rw [<- hw1]; exact hown.alloc _
   have q1 := blk_cell hx1 1 _ rfl
   have q2 := blk_cell hx1 2 _ rfl
   have q0 := blk_cell hx1 0 _ rfl
   clear hw1 hown hbel d0 d1 d2 hx1
   generalize wr.heap.size = ab at *
   refine (pickn_any k 3 (by omega) (by omega) hk.1 hk.2 w1).mono ?_
   rintro e w1 ⟨rfl, rfl⟩
   by_cases h3 : pickN k 3 = 0
   ·rw [h3]
    go_wp2_with fail
    refine (long_any a w1).mono ?_
    rintro e w1 ⟨rfl, rfl⟩
    go_wp2_with fail
    refine (pickn_any b 2 (by omega) (by omega) hkb.1 hkb.2 w1).mono ?_
    rintro e w1 ⟨rfl, rfl⟩
    by_cases h2 : pickN b 2 = 0
    ·rw [h2]
     go_wp2_with fail
     refine (pickn_any a 10 (by omega) (by omega) hka.1 hka.2 w1).mono ?_
     rintro e w1 ⟨rfl, rfl⟩
     have h10 := pickN_lt a 10 (by omega)
     obtain ⟨c, hc⟩ : ∃ c : Int, ((pickN a 10 : Nat) : Int) = c + 1 := ⟨_, (Int.sub_add_cancel _ 1).symm⟩
     have hbb : -2147483648 <= c /\ c < 2147483648 := by omega
     rw [hc]
     clear hc h10
     go_wp2_with fail
     rw [show (i : Int) + 2 = ((i + 2 : Nat) : Int) by omega]
     refine (kdigits_nat (i + 2) w1 (by omega)).mono ?_
     rintro e w2 ⟨rfl, hb2⟩
     have hdl := Code.dec_len (i + 2) 2 (by omega) (by omega)
     rw [<- bs_size] at hdl
     generalize hD : bs (dec (i + 2)) = dn at *
     have HD := hide hD
     clear hD
     go_wp2_with fail
     refine (kdigits_any c w2 (by omega)).mono ?_
     rintro e w3 ⟨rfl, hb3⟩
     have hcl := textT_const c hbb.1 hbb.2
     have hcl2 : (bs (digits c)).size <= 17 := by
      rw [bs_size]
      have : (Code.textT (.const c)).length = 6 + (digits c).length := by show ([99, 111, 110, 115, 116, 32] ++ digits c).length = _; rw [List.length_append]; rfl
      omega
     clear hcl
     generalize hE : bs (digits c) = dc at *
     have HE := hide hE
     clear hE
     have hb13 : Below w1.heap.size w1 w3 := hb2.trans (hb3.mono hb2.size)
     have hown3 := own_below hown1 hb13
     have hbw : Below w.heap.size w w3 := hb1.trans (hb13.mono hb1.size)
     have hsz := hbw.size
     have HB := hide hbb
     clear hb2 hb3 hbb hown1 hb1 hb13 q0 q1 q2
     go_wp2_with (first | (at_builtin; refine wpList_append_own _ rfl _ _ 31 rfl w.heap.size 3 i0 (.int .i64 0) 1 8 Tryz.underlying31 hi hz0 hz1 hz2 rfl (by decide) _ _ _ rfl (hown3.alloc _) ⟨_, 0, none⟩ 1 1 [.int .i64 c] rfl rfl (cell_one_new _ _ _) (fun x hx => by simp at hx; subst hx; rfl) (by unfold maxLen; omega) (by omega) (by simp; omega) ?_; intro v' w4 hown' hgrow4 hnil4))
     refine ⟨⟨i + 1, l ++ [⟨i + 2, .const c⟩], out ++ [c], by omega, by omega, ?_, by go_num, ?_, ?_, ?_, ?_⟩, by simp [intOf]; omega⟩
     ·rw [line_const, HT.out, HD.out, HE.out]; rfl
     ·rw [ints_snoc]; exact hown'
     ·exact hide (by rw [List.length_append, hol.out]; rfl)
     ·exact (hbw.alloc hsz _).grown hgrow4 (by simp; omega) (fun j hj => (hown3.lt j hj).1)
     ·exact hide (hok.out.snoc HB.out (fun z hz => by cases hz) rfl HB.out (textT_const c HB.out.1 HB.out.2) (by omega) ⟨(fun _ h => by cases h), (fun _ h => by cases h)⟩)
    ·have hbb := w32_in32 a
     generalize hcc : wrap32 a = c at *
     clear hcc
     have h2' : ((pickN b 2 : Nat) : Int) ≠ 0 := by omega
     go_wp2_with fail
     rw [show (i : Int) + 2 = ((i + 2 : Nat) : Int) by omega]
     refine (kdigits_nat (i + 2) w1 (by omega)).mono ?_
     rintro e w2 ⟨rfl, hb2⟩
     have hdl := Code.dec_len (i + 2) 2 (by omega) (by omega)
     rw [<- bs_size] at hdl
     generalize hD : bs (dec (i + 2)) = dn at *
     have HD := hide hD
     clear hD
     go_wp2_with fail
     refine (kdigits_any c w2 (by omega)).mono ?_
     rintro e w3 ⟨rfl, hb3⟩
     have hcl := textT_const c hbb.1 hbb.2
     have hcl2 : (bs (digits c)).size <= 17 := by
      rw [bs_size]
      have : (Code.textT (.const c)).length = 6 + (digits c).length := by show ([99, 111, 110, 115, 116, 32] ++ digits c).length = _; rw [List.length_append]; rfl
      omega
     clear hcl
     generalize hE : bs (digits c) = dc at *
     have HE := hide hE
     clear hE
     have hb13 : Below w1.heap.size w1 w3 := hb2.trans (hb3.mono hb2.size)
     have hown3 := own_below hown1 hb13
     have hbw : Below w.heap.size w w3 := hb1.trans (hb13.mono hb1.size)
     have hsz := hbw.size
     have HB := hide hbb
     clear hb2 hb3 hbb hown1 hb1 hb13 q0 q1 q2
     go_wp2_with (first | (at_builtin; refine wpList_append_own _ rfl _ _ 31 rfl w.heap.size 3 i0 (.int .i64 0) 1 8 Tryz.underlying31 hi hz0 hz1 hz2 rfl (by decide) _ _ _ rfl (hown3.alloc _) ⟨_, 0, none⟩ 1 1 [.int .i64 c] rfl rfl (cell_one_new _ _ _) (fun x hx => by simp at hx; subst hx; rfl) (by unfold maxLen; omega) (by omega) (by simp; omega) ?_; intro v' w4 hown' hgrow4 hnil4))
     refine ⟨⟨i + 1, l ++ [⟨i + 2, .const c⟩], out ++ [c], by omega, by omega, ?_, by go_num, ?_, ?_, ?_, ?_⟩, by simp [intOf]; omega⟩
     ·rw [line_const, HT.out, HD.out, HE.out]; rfl
     ·rw [ints_snoc]; exact hown'
     ·exact hide (by rw [List.length_append, hol.out]; rfl)
     ·exact (hbw.alloc hsz _).grown hgrow4 (by simp; omega) (fun j hj => (hown3.lt j hj).1)
     ·exact hide (hok.out.snoc HB.out (fun z hz => by cases hz) rfl HB.out (textT_const c HB.out.1 HB.out.2) (by omega) ⟨(fun _ h => by cases h), (fun _ h => by cases h)⟩)
   ·have h3' : ((pickN k 3 : Nat) : Int) ≠ 0 := by omega
    go_wp2_with fail
    refine (pickn_any k 36 (by omega) (by omega) hk.1 hk.2 w1).mono ?_
    rintro e w1 ⟨rfl, rfl⟩
    have h36 := pickN_lt k 36 (by omega)
    obtain ⟨q, r, hqr, hr3, hq⟩ : ∃ q r, pickN k 36 = 3 * q + r /\ r < 3 /\ q < 12 := ⟨pickN k 36 / 3, pickN k 36 % 3, by omega, by omega, by omega⟩
    rw [hqr]
    clear h36 hqr
    go_wp2_with fail
    simp only [show (i : Int) + 2 = ((i + 2 : Nat) : Int) by omega]
    refine (pickn_any a (i + 2) (by omega) (by omega) hka.1 hka.2 w1).mono ?_
    rintro e w1 ⟨rfl, rfl⟩
    have hA := pickN_lt a (i + 2) (by omega)
    generalize pickN a (i + 2) = na at *
    go_wp2_with fail
    have hq3 : (3 * (q : Int) + (r : Int)) / 3 = (q : Int) := by omega
    simp only [hq3, show (i : Int) + 2 = ((i + 2 : Nat) : Int) by omega]
    refine (pickn_any b (i + 2) (by omega) (by omega) hkb.1 hkb.2 w1).mono ?_
    rintro e w1 ⟨rfl, rfl⟩
    have hB := pickN_lt b (i + 2) (by omega)
    generalize pickN b (i + 2) = nb at *
    obtain ⟨dn, HDN, hdn⟩ : ∃ dn, Hid (bs (dec (i + 2)) = dn) /\ dn.size <= 2 := ⟨_, hide rfl, by rw [bs_size]; exact Code.dec_len _ 2 (by omega) (by omega)⟩
    obtain ⟨dm, HDM, hdm⟩ : ∃ dm, Hid (bs (dec na) = dm) /\ dm.size <= 2 := ⟨_, hide rfl, by rw [bs_size]; exact Code.dec_len _ 2 (by omega) (by omega)⟩
    obtain ⟨nm, HNM, hnm⟩ : ∃ nm, Hid (bs (Code.nameOf (kop q)) = nm) /\ nm.size <= 3 := ⟨_, hide rfl, by rw [bs_size]; exact name_len q hq⟩
    have HD1 : Hid (∀ w', Calls Tryz.prog 26 #[.int .i64 ((i : Int) + 2)] w' fun e w'' => e = .returned (.string dn) /\ Below w'.heap.size w' w'') := hide fun w' => by
     rw [<- HDN.out]; exact kdigits_nat (i + 2) w' (by omega)
    have HD2 : Hid (∀ w', Calls Tryz.prog 26 #[.int .i64 (na : Int)] w' fun e w'' => e = .returned (.string dm) /\ Below w'.heap.size w' w'') := hide fun w' => by
     rw [<- HDM.out]; exact kdigits_nat na w' (by omega)
    have HO : Hid (∀ w', Calls Tryz.prog 47 #[] w' fun e w'' => ∃ g, e = .returned (.slice (some ⟨g, 0, none⟩) 12 12) /\ w''.cell? ⟨g, q, none⟩ = some (.string nm) /\ Below w'.heap.size w' w'' /\ g < w''.heap.size) := hide fun w' => by
     refine (ops_any w').mono ?_
     rintro e w'' ⟨g, rfl, h1, h2, h3⟩
     exact ⟨g, rfl, by rw [<- HNM.out]; exact h1 q hq, h2, h3⟩
    have hq0 : (0 : Int) <= (q : Int) := by omega
    have hq12 : (q : Int) < 12 := by omega
    go_wp2_with fail
    have f1 : ¬ 9223372036854775807 < t.size + 1 := by omega
    have f2 : ¬ 9223372036854775807 < t.size + 1 + dn.size := by omega
    have f3 : ¬ 9223372036854775807 < t.size + 1 + dn.size + 3 := by omega
    have f4 : ¬ 9223372036854775807 < t.size + 1 + dn.size + 3 + nm.size := by omega
    have f5 : ¬ 9223372036854775807 < t.size + 1 + dn.size + 3 + nm.size + 2 := by omega
    have f6 : ¬ 9223372036854775807 < t.size + 1 + dn.size + 3 + nm.size + 2 + dm.size := by omega
    refine wp_region_held_drew (S := fun w' => Below w1.heap.size w1 w') (by kernel_rfl) (Below.refl _ w1).drew (fun hHeld => ?_)
    refine wpAnyH_take (i := 0) (v := .string t) rfl (by kernel_rfl) (by kernel_rfl) (by kernel_rfl) (fun _ _ _ h => h) (Or.inl ⟨by rfl, fun w' _ => by go_simp⟩) hHeld ?_
    try simp only [Act.put, zz]
    refine wpAnyH_take (i := 1) (v := .string (t ++ ⟨#[118]⟩)) rfl (by kernel_rfl) (by kernel_rfl) (by kernel_rfl) (fun _ _ _ h => h) (Or.inl ⟨by rfl, fun w' _ => by go_simp⟩) hHeld ?_
    try simp only [Act.put, zz]
    refine wpAnyH_take (i := 2) (v := .int .i64 ((i : Int) + 2)) rfl (by kernel_rfl) (by kernel_rfl) (by kernel_rfl) (fun _ _ _ h => h) (Or.inl ⟨by rfl, fun w' _ => by go_simp⟩) hHeld ?_
    try simp only [Act.put, zz]
    refine wpAnyH_take (i := 7) (v := .int .i64 (q : Int)) rfl (by kernel_rfl) (by kernel_rfl) (by kernel_rfl) (fun _ _ _ h => h) (Or.inl ⟨by rfl, fun w' _ => by go_simp⟩) hHeld ?_
    try simp only [Act.put, zz]
    refine wpAnyH_take (i := 12) (v := .int .i64 (na : Int)) rfl (by kernel_rfl) (by kernel_rfl) (by kernel_rfl) (fun _ _ _ h => h) (Or.inl ⟨by rfl, fun w' _ => by go_simp⟩) hHeld ?_
    try simp only [Act.put, zz]
    refine wpAnyH_ready (rs := [3]) (by kernel_rfl) (by simp) ?_
    refine AllReadyH.cons rfl (fun K hK => ?_) AllReadyH.nil
    rw [if_pos (by rfl)]
    go_wp2_with fail
    refine (HD1.out _).mono ?_
    rintro e w2 ⟨rfl, hb2⟩
    have hb2' : Below w1.heap.size w1 w2 := undrewB hb2
    refine hK.out _ _ hb2' (fun hHeld => ?_)
    clear hK K
    try simp only [Act.put, zz]
    refine wpAnyH_take (i := 4) (v := .string (t ++ ⟨#[118]⟩ ++ dn)) rfl (by kernel_rfl) (by kernel_rfl) (by kernel_rfl) (fun _ _ _ h => h) (Or.inl ⟨by rfl, fun w' _ => by go_simp⟩) hHeld ?_
    try simp only [Act.put, zz]
    refine wpAnyH_take (i := 5) (v := .string (t ++ ⟨#[118]⟩ ++ dn ++ ⟨#[32, 61, 32]⟩)) rfl (by kernel_rfl) (by kernel_rfl) (by kernel_rfl) (fun _ _ _ h => h) (Or.inl ⟨by rfl, fun w' _ => by go_simp⟩) hHeld ?_
    try simp only [Act.put, zz]
    refine wpAnyH_ready (rs := [6]) (by kernel_rfl) (by simp) ?_
    refine AllReadyH.cons rfl (fun K hK => ?_) AllReadyH.nil
    rw [if_pos (by rfl)]
    go_wp2_with fail
    refine (HO.out _).mono ?_
    rintro e w4 ⟨gg, rfl, hcell, hb4, hgl⟩
    have hb4' : Below w1.heap.size w1 w4 := hb2'.trans (hb4.mono hb2'.size)
    refine hK.out _ _ hb4' (fun hHeld => ?_)
    clear hK K
    refine held_mono (S' := fun w' => Below w1.heap.size w1 w' /\ w'.cell? ⟨gg, q, none⟩ = some (.string nm)) (fun _ h => h.1) _ _ _ _ ?_
    have hHeld2 : Below w1.heap.size w1 w4 /\ w4.cell? ⟨gg, q, none⟩ = some (.string nm) := ⟨hb4', hcell⟩
    try simp only [Act.put, zz]
    refine wpAnyH_take (i := 8) (v := .pointer (some ⟨gg, q, none⟩)) rfl (by kernel_rfl) (by kernel_rfl) (by kernel_rfl) (fun _ _ _ h => h) (Or.inl ⟨by rfl, fun w' _ => by go_simp⟩) hHeld2 ?_
    try simp only [Act.put, zz]
    refine wpAnyH_take (i := 9) (v := .string nm) rfl (by kernel_rfl) (by kernel_rfl) (by kernel_rfl) (fun _ _ _ h => h) (Or.inl ⟨by rfl, fun w' h => by have hc := h.2; go_simp⟩) hHeld2 ?_
    try simp only [Act.put, zz]
    refine wpAnyH_take (i := 10) (v := .string (t ++ ⟨#[118]⟩ ++ dn ++ ⟨#[32, 61, 32]⟩ ++ nm)) rfl (by kernel_rfl) (by kernel_rfl) (by kernel_rfl) (fun _ _ _ h => h) (Or.inl ⟨by rfl, fun w' _ => by go_simp⟩) hHeld2 ?_
    try simp only [Act.put, zz]
    refine wpAnyH_take (i := 11) (v := .string (t ++ ⟨#[118]⟩ ++ dn ++ ⟨#[32, 61, 32]⟩ ++ nm ++ ⟨#[32, 118]⟩)) rfl (by kernel_rfl) (by kernel_rfl) (by kernel_rfl) (fun _ _ _ h => h) (Or.inl ⟨by rfl, fun w' _ => by go_simp⟩) hHeld2 ?_
    try simp only [Act.put, zz]
    refine wpAnyH_ready (rs := [13]) (by kernel_rfl) (by simp) ?_
    refine AllReadyH.cons rfl (fun K hK => ?_) AllReadyH.nil
    rw [if_pos (by rfl)]
    go_wp2_with fail
    refine (HD2.out _).mono ?_
    rintro e w3 ⟨rfl, hb3⟩
    have hb3' : Below w1.heap.size w1 w3 := hb4'.trans (hb3.mono hb4'.size)
    have hHeld3 : Below w1.heap.size w1 w3 /\ w3.cell? ⟨gg, q, none⟩ = some (.string nm) := ⟨hb3', ((bcell hb3).1 gg q hgl).trans hcell⟩
    refine hK.out _ _ hHeld3 (fun hHeld => ?_)
    clear hK K
    try simp only [Act.put, zz]
    refine wpAnyH_take (i := 14) (v := .string (t ++ ⟨#[118]⟩ ++ dn ++ ⟨#[32, 61, 32]⟩ ++ nm ++ ⟨#[32, 118]⟩ ++ dm)) rfl (by kernel_rfl) (by kernel_rfl) (by kernel_rfl) (fun _ _ _ h => h) (Or.inl ⟨by rfl, fun w' _ => by go_simp⟩) hHeld3 ?_
    try simp only [Act.put, zz]
    refine wpAnyH_take (i := 15) (v := .string (t ++ ⟨#[118]⟩ ++ dn ++ ⟨#[32, 61, 32]⟩ ++ nm ++ ⟨#[32, 118]⟩ ++ dm)) rfl (by kernel_rfl) (by kernel_rfl) (by kernel_rfl) (fun _ _ _ h => h) (Or.inl ⟨by rfl, fun w' _ => by go_simp⟩) hHeld3 ?_
    try simp only [Act.put, zz]
    refine wpAnyH_done (by kernel_rfl) ?_ _
    have hown3 := own_below hown1 hb3'
    have hbw : Below w.heap.size w w3 := hb1.trans (hb3'.mono hb1.size)
    have HT6 : Hid (t ++ ⟨#[118]⟩ ++ dn ++ ⟨#[32, 61, 32]⟩ ++ nm ++ ⟨#[32, 118]⟩ ++ dm = bs (hdr ++ Code.linesOf l ++ [118] ++ dec (i + 2) ++ [32, 61, 32] ++ Code.nameOf (kop q) ++ [32, 118] ++ dec na)) := hide (by
     rw [<- HT.out, <- HDN.out, <- HNM.out, <- HDM.out]
     simp only [<- bs_append]; rfl)
    have hs6 : (t ++ ⟨#[118]⟩ ++ dn ++ ⟨#[32, 61, 32]⟩ ++ nm ++ ⟨#[32, 118]⟩ ++ dm).size <= 5000 := by
     simp only [ByteArray.size_append', ByteArray.size_mk']
     show t.size + 1 + dn.size + 3 + nm.size + 2 + dm.size <= 5000
     omega
    generalize t ++ ⟨#[118]⟩ ++ dn ++ ⟨#[32, 61, 32]⟩ ++ nm ++ ⟨#[32, 118]⟩ ++ dm = t6 at *
    clear f1 f2 f3 f4 f5 f6 hb2 hb3 hb4 hb2' hb4' hb3' hHeld hHeld2 hHeld3 hcell hgl hown1 hb1 q0 q1 q2
    have hna0 : (0 : Int) <= (na : Int) := by omega
    have hna1 : (na : Int) < (i : Int) + 2 := by omega
    have hnb0 : (0 : Int) <= (nb : Int) := by omega
    have hnb1 : (nb : Int) < (i : Int) + 2 := by omega
    by_cases hq10 : q < 10
    ·have hq10' : (q : Int) < 10 := by omega
     have HOF : Hid (ofq q na nb = [na, nb]) := hide (if_pos hq10)
     clear hq10
     go_wp2_with fail
     refine (kdigits_nat nb w3 (by omega)).mono ?_
     rintro e w5 ⟨rfl, hb5⟩
     obtain ⟨db, HDB, hdb⟩ : ∃ db, Hid (bs (dec nb) = db) /\ db.size <= 2 := ⟨_, hide rfl, by rw [bs_size]; exact Code.dec_len _ 2 (by omega) (by omega)⟩
     rw [HDB.out]
     have hown5 := own_below hown3 hb5
     have hbw5 : Below w.heap.size w w5 := hbw.trans (hb5.mono hbw.size)
     clear hown3 hbw hb5
     go_wp2_with fail
     have hs7 : (t6 ++ ⟨#[32, 118]⟩ ++ db ++ ⟨#[10]⟩).size <= 5100 := by
      simp only [ByteArray.size_append', ByteArray.size_mk']
      show t6.size + 2 + db.size + 1 <= 5100
      omega
     have HT7 : Hid (t6 ++ ⟨#[32, 118]⟩ ++ db ++ ⟨#[10]⟩ = bs (hdr ++ Code.linesOf l ++ [118] ++ dec (i + 2) ++ [32, 61, 32] ++ Code.nameOf (kop q) ++ Code.ofText (ofq q na nb) ++ [10])) := hide (by
      rw [HOF.out, <- HDB.out, HT6.out]
      simp only [bs2, bs1, bs_append]
      congr 1
      simp [Code.ofText])
     generalize t6 ++ ⟨#[32, 118]⟩ ++ db ++ ⟨#[10]⟩ = t7 at hs7 HT7 ⊢
     obtain ⟨pv', cv', hpv, hcs⟩ := ints_open (l := out) (by rw [hol.out]; exact hown5)
     simp only [Value.slice.injEq] at hpv
     obtain ⟨rfl, -, rfl⟩ := hpv
     obtain ⟨gv, rfl, ca⟩ := hcs na (by rw [hol.out]; exact hA)
     obtain ⟨gv', hgv, cb⟩ := hcs nb (by rw [hol.out]; exact hB)
     cases hgv
     have HVA := hide (hok.out.in32 (out[na]'(by rw [hol.out]; exact hA)) (List.getElem_mem _))
     have HVB := hide (hok.out.in32 (out[nb]'(by rw [hol.out]; exact hB)) (List.getElem_mem _))
     obtain ⟨va, hva⟩ : ∃ va, out[na]'(by rw [hol.out]; exact hA) = va := ⟨_, rfl⟩
     obtain ⟨vb, hvb⟩ : ∃ vb, out[nb]'(by rw [hol.out]; exact hB) = vb := ⟨_, rfl⟩
     rw [hva] at ca HVA
     rw [hvb] at cb HVB
     have HVAe := hide hva
     have HVBe := hide hvb
     clear hva hvb hcs
     obtain ⟨n, hn1, hn2⟩ := kreckon_ok q hq va vb HVA.out.1 HVA.out.2 HVB.out.1 HVB.out.2
     have HN1 := hide hn1
     have HN2 := hide hn2
     clear hn1 hn2
     refine wp_region_held_drew (S := fun _ => True) (by kernel_rfl) trivial (fun hHeld => ?_)
     refine wpAnyH_take (i := 0) (v := .slice (some ⟨gv, 0, none⟩) (i + 2) cv) rfl (by kernel_rfl) (by kernel_rfl) (by kernel_rfl) (fun _ _ _ h => h) (Or.inl ⟨by rfl, fun w' _ => by go_simp⟩) trivial ?_
     try simp only [Act.put, zz]
     refine wpAnyH_take (i := 1) (v := .int .i64 (q : Int)) rfl (by kernel_rfl) (by kernel_rfl) (by kernel_rfl) (fun _ _ _ h => h) (Or.inl ⟨by rfl, fun w' _ => by go_simp⟩) trivial ?_
     try simp only [Act.put, zz]
     refine wpAnyH_take (i := 2) (v := .slice (some ⟨gv, 0, none⟩) (i + 2) cv) rfl (by kernel_rfl) (by kernel_rfl) (by kernel_rfl) (fun _ _ _ h => h) (Or.inl ⟨by rfl, fun w' _ => by go_simp⟩) trivial ?_
     try simp only [Act.put, zz]
     refine wpAnyH_take (i := 3) (v := .int .i64 (na : Int)) rfl (by kernel_rfl) (by kernel_rfl) (by kernel_rfl) (fun _ _ _ h => h) (Or.inl ⟨by rfl, fun w' _ => by go_simp⟩) trivial ?_
     try simp only [Act.put, zz]
     refine wpAnyH_take (i := 4) (v := .pointer (some ⟨gv, na, none⟩)) rfl (by kernel_rfl) (by kernel_rfl) (by kernel_rfl) (fun _ _ _ h => h) (Or.inl ⟨by rfl, fun w' _ => by go_simp⟩) trivial ?_
     try simp only [Act.put, zz]
     refine wpAnyH_take (i := 6) (v := .slice (some ⟨gv, 0, none⟩) (i + 2) cv) rfl (by kernel_rfl) (by kernel_rfl) (by kernel_rfl) (fun _ _ _ h => h) (Or.inl ⟨by rfl, fun w' _ => by go_simp⟩) trivial ?_
     try simp only [Act.put, zz]
     refine wpAnyH_take (i := 7) (v := .int .i64 (nb : Int)) rfl (by kernel_rfl) (by kernel_rfl) (by kernel_rfl) (fun _ _ _ h => h) (Or.inl ⟨by rfl, fun w' _ => by go_simp⟩) trivial ?_
     try simp only [Act.put, zz]
     refine wpAnyH_take (i := 8) (v := .pointer (some ⟨gv, nb, none⟩)) rfl (by kernel_rfl) (by kernel_rfl) (by kernel_rfl) (fun _ _ _ h => h) (Or.inl ⟨by rfl, fun w' _ => by go_simp⟩) trivial ?_
     try simp only [Act.put, zz]
     refine wpAnyH_ready (rs := [5, 9]) (by kernel_rfl) (by simp) ?_
     refine AllReadyH.cons rfl (fun K hK => ?_) (AllReadyH.cons rfl (fun K hK => ?_) AllReadyH.nil)
     case refine_1 =>
      rw [if_pos (by rfl)]
      go_wp2_with fail
      refine hK.out _ _ trivial (fun hHeld => ?_)
      clear hK K
      try simp only [Act.put, zz]
      refine wpAnyH_ready (rs := [9]) (by kernel_rfl) (by simp) ?_
      refine AllReadyH.cons rfl (fun K hK => ?_) AllReadyH.nil
      rw [if_pos (by rfl)]
      go_wp2_with fail
      refine hK.out _ _ trivial (fun hHeld => ?_)
      clear hK K
      try simp only [Act.put, zz]
      refine wpAnyH_ready (rs := [10]) (by kernel_rfl) (by simp) ?_
      refine AllReadyH.cons rfl (fun K hK => ?_) AllReadyH.nil
      rw [if_pos (by rfl)]
      go_wp2_with fail
      refine (HN2.out _).mono ?_
      rintro e w6 ⟨rfl, rfl⟩
      have hown6 := own_below hown5 (Below.refl _ w5).drew
      have hbw6 : Below w.heap.size w w5.drew := hbw5.drew
      generalize w5.drew = w6 at hown6 hbw6 hK ⊢
      clear hown5 hbw5 ca cb
      refine hK.out _ _ trivial (fun hHeld => ?_)
      clear hK K
      try simp only [Act.put, zz]
      refine wpAnyH_ready (rs := [11]) (by kernel_rfl) (by simp) ?_
      refine AllReadyH.cons rfl (fun K hK => ?_) AllReadyH.nil
      rw [if_pos (by rfl)]
      go_wp2_with fail
      refine hK.out _ _ trivial (fun hHeld => ?_)
      clear hK K
      try simp only [Act.put, zz]
      refine wpAnyH_ready (rs := [12]) (by kernel_rfl) (by simp) ?_
      refine AllReadyH.cons rfl (fun K hK => ?_) AllReadyH.nil
      rw [if_pos (by rfl)]
      refine wp_append_lies _ _ _ 31 rfl w.heap.size 3 i0 (.int .i64 0) 1 8 Tryz.underlying31 hi hz0 hz1 hz2 rfl (by decide) _ _ _ rfl (hown6.alloc _) ⟨_, 0, none⟩ 1 1 [.int .i64 n] rfl rfl (cell_one_new _ _ _) (fun x hx => by simp at hx; subst hx; rfl) (by decide) (by unfold maxLen; omega) (by omega) (Nat.le_trans hbw6.size (by simp)) _ rfl ?_
      intro gw cw w7 hown7 hgrow7 _ _
      refine hK.out _ _ trivial (fun hHeld => ?_)
      clear hK K
      try simp only [Act.put, zz]
      refine wpAnyH_ready (rs := [13]) (by kernel_rfl) (by simp) ?_
      refine AllReadyH.cons rfl (fun K hK => ?_) AllReadyH.nil
      rw [if_pos (by rfl)]
      go_wp2_with fail
      refine hK.out _ _ trivial (fun hHeld => ?_)
      clear hK K
      try simp only [Act.put, zz]
      refine wpAnyH_done (by kernel_rfl) ?_ _
      have hbw7 : Below w.heap.size w w7 := (hbw6.alloc hbw6.size _).grown hgrow7 (Nat.le_trans hbw6.size (by simp)) (fun j hj => (hown6.lt j hj).1)
      clear hown6 hbw6 hgrow7
      go_wp2_with fail
      refine ⟨⟨i + 1, l ++ [⟨i + 2, .apply (kop q) (ofq q na nb)⟩], out ++ [n], by omega, by omega, ?_, by go_num, ?_, ?_, hbw7, ?_⟩, by simp [intOf]; omega⟩
      ·rw [line_apply, HT7.out]
      ·rw [ints_snoc]; exact hown7
      ·exact hide (by rw [List.length_append, hol.out]; rfl)
      ·have hc := HN1.out
       rw [<- HVAe.out, <- HVBe.out] at hc
       exact hide (hok.out.snoc ⟨kop_lt hq, ofq_len hq na nb, ofq_lt (by omega) (by omega)⟩ (ofq_lt (by omega) (by omega)) (ofq_comes hq _ out _ _ hc) (reckon_in32 HN1.out HVA.out HVB.out) (ofq_text hq (by omega) (by omega)) (by omega) (kop_div _ _))
     case refine_2 =>
      rw [if_pos (by rfl)]
      go_wp2_with fail
      refine hK.out _ _ trivial (fun hHeld => ?_)
      clear hK K
      try simp only [Act.put, zz]
      refine wpAnyH_ready (rs := [5]) (by kernel_rfl) (by simp) ?_
      refine AllReadyH.cons rfl (fun K hK => ?_) AllReadyH.nil
      rw [if_pos (by rfl)]
      go_wp2_with fail
      refine hK.out _ _ trivial (fun hHeld => ?_)
      clear hK K
      try simp only [Act.put, zz]
      refine wpAnyH_ready (rs := [10]) (by kernel_rfl) (by simp) ?_
      refine AllReadyH.cons rfl (fun K hK => ?_) AllReadyH.nil
      rw [if_pos (by rfl)]
      go_wp2_with fail
      refine (HN2.out _).mono ?_
      rintro e w6 ⟨rfl, rfl⟩
      have hown6 := own_below hown5 (Below.refl _ w5).drew
      have hbw6 : Below w.heap.size w w5.drew := hbw5.drew
      generalize w5.drew = w6 at hown6 hbw6 hK ⊢
      clear hown5 hbw5 ca cb
      refine hK.out _ _ trivial (fun hHeld => ?_)
      clear hK K
      try simp only [Act.put, zz]
      refine wpAnyH_ready (rs := [11]) (by kernel_rfl) (by simp) ?_
      refine AllReadyH.cons rfl (fun K hK => ?_) AllReadyH.nil
      rw [if_pos (by rfl)]
      go_wp2_with fail
      refine hK.out _ _ trivial (fun hHeld => ?_)
      clear hK K
      try simp only [Act.put, zz]
      refine wpAnyH_ready (rs := [12]) (by kernel_rfl) (by simp) ?_
      refine AllReadyH.cons rfl (fun K hK => ?_) AllReadyH.nil
      rw [if_pos (by rfl)]
      refine wp_append_lies _ _ _ 31 rfl w.heap.size 3 i0 (.int .i64 0) 1 8 Tryz.underlying31 hi hz0 hz1 hz2 rfl (by decide) _ _ _ rfl (hown6.alloc _) ⟨_, 0, none⟩ 1 1 [.int .i64 n] rfl rfl (cell_one_new _ _ _) (fun x hx => by simp at hx; subst hx; rfl) (by decide) (by unfold maxLen; omega) (by omega) (Nat.le_trans hbw6.size (by simp)) _ rfl ?_
      intro gw cw w7 hown7 hgrow7 _ _
      refine hK.out _ _ trivial (fun hHeld => ?_)
      clear hK K
      try simp only [Act.put, zz]
      refine wpAnyH_ready (rs := [13]) (by kernel_rfl) (by simp) ?_
      refine AllReadyH.cons rfl (fun K hK => ?_) AllReadyH.nil
      rw [if_pos (by rfl)]
      go_wp2_with fail
      refine hK.out _ _ trivial (fun hHeld => ?_)
      clear hK K
      try simp only [Act.put, zz]
      refine wpAnyH_done (by kernel_rfl) ?_ _
      have hbw7 : Below w.heap.size w w7 := (hbw6.alloc hbw6.size _).grown hgrow7 (Nat.le_trans hbw6.size (by simp)) (fun j hj => (hown6.lt j hj).1)
      clear hown6 hbw6 hgrow7
      go_wp2_with fail
      refine ⟨⟨i + 1, l ++ [⟨i + 2, .apply (kop q) (ofq q na nb)⟩], out ++ [n], by omega, by omega, ?_, by go_num, ?_, ?_, hbw7, ?_⟩, by simp [intOf]; omega⟩
      ·rw [line_apply, HT7.out]
      ·rw [ints_snoc]; exact hown7
      ·exact hide (by rw [List.length_append, hol.out]; rfl)
      ·have hc := HN1.out
       rw [<- HVAe.out, <- HVBe.out] at hc
       exact hide (hok.out.snoc ⟨kop_lt hq, ofq_len hq na nb, ofq_lt (by omega) (by omega)⟩ (ofq_lt (by omega) (by omega)) (ofq_comes hq _ out _ _ hc) (reckon_in32 HN1.out HVA.out HVB.out) (ofq_text hq (by omega) (by omega)) (by omega) (kop_div _ _))
    ·have hq10' : ¬ (q : Int) < 10 := by omega
     have HOF : Hid (ofq q na nb = [na]) := hide (if_neg hq10)
     clear hq10
     go_wp2_with fail
     have hs7 : (t6 ++ ⟨#[10]⟩).size <= 5100 := by
      simp only [ByteArray.size_append', ByteArray.size_mk']
      show t6.size + 1 <= 5100
      omega
     have HT7 : Hid (t6 ++ ⟨#[10]⟩ = bs (hdr ++ Code.linesOf l ++ [118] ++ dec (i + 2) ++ [32, 61, 32] ++ Code.nameOf (kop q) ++ Code.ofText (ofq q na nb) ++ [10])) := hide (by
      rw [HOF.out, HT6.out]
      simp only [bs1, bs_append]
      congr 1
      simp [Code.ofText])
     generalize t6 ++ ⟨#[10]⟩ = t7 at hs7 HT7 ⊢
     have hown5 := hown3
     have hbw5 := hbw
     clear hown3 hbw
     obtain ⟨pv', cv', hpv, hcs⟩ := ints_open (l := out) (by rw [hol.out]; exact hown5)
     simp only [Value.slice.injEq] at hpv
     obtain ⟨rfl, -, rfl⟩ := hpv
     obtain ⟨gv, rfl, ca⟩ := hcs na (by rw [hol.out]; exact hA)
     obtain ⟨gv', hgv, cb⟩ := hcs nb (by rw [hol.out]; exact hB)
     cases hgv
     have HVA := hide (hok.out.in32 (out[na]'(by rw [hol.out]; exact hA)) (List.getElem_mem _))
     have HVB := hide (hok.out.in32 (out[nb]'(by rw [hol.out]; exact hB)) (List.getElem_mem _))
     obtain ⟨va, hva⟩ : ∃ va, out[na]'(by rw [hol.out]; exact hA) = va := ⟨_, rfl⟩
     obtain ⟨vb, hvb⟩ : ∃ vb, out[nb]'(by rw [hol.out]; exact hB) = vb := ⟨_, rfl⟩
     rw [hva] at ca HVA
     rw [hvb] at cb HVB
     have HVAe := hide hva
     have HVBe := hide hvb
     clear hva hvb hcs
     obtain ⟨n, hn1, hn2⟩ := kreckon_ok q hq va vb HVA.out.1 HVA.out.2 HVB.out.1 HVB.out.2
     have HN1 := hide hn1
     have HN2 := hide hn2
     clear hn1 hn2
     refine wp_region_held_drew (S := fun _ => True) (by kernel_rfl) trivial (fun hHeld => ?_)
     refine wpAnyH_take (i := 0) (v := .slice (some ⟨gv, 0, none⟩) (i + 2) cv) rfl (by kernel_rfl) (by kernel_rfl) (by kernel_rfl) (fun _ _ _ h => h) (Or.inl ⟨by rfl, fun w' _ => by go_simp⟩) trivial ?_
     try simp only [Act.put, zz]
     refine wpAnyH_take (i := 1) (v := .int .i64 (q : Int)) rfl (by kernel_rfl) (by kernel_rfl) (by kernel_rfl) (fun _ _ _ h => h) (Or.inl ⟨by rfl, fun w' _ => by go_simp⟩) trivial ?_
     try simp only [Act.put, zz]
     refine wpAnyH_take (i := 2) (v := .slice (some ⟨gv, 0, none⟩) (i + 2) cv) rfl (by kernel_rfl) (by kernel_rfl) (by kernel_rfl) (fun _ _ _ h => h) (Or.inl ⟨by rfl, fun w' _ => by go_simp⟩) trivial ?_
     try simp only [Act.put, zz]
     refine wpAnyH_take (i := 3) (v := .int .i64 (na : Int)) rfl (by kernel_rfl) (by kernel_rfl) (by kernel_rfl) (fun _ _ _ h => h) (Or.inl ⟨by rfl, fun w' _ => by go_simp⟩) trivial ?_
     try simp only [Act.put, zz]
     refine wpAnyH_take (i := 4) (v := .pointer (some ⟨gv, na, none⟩)) rfl (by kernel_rfl) (by kernel_rfl) (by kernel_rfl) (fun _ _ _ h => h) (Or.inl ⟨by rfl, fun w' _ => by go_simp⟩) trivial ?_
     try simp only [Act.put, zz]
     refine wpAnyH_take (i := 6) (v := .slice (some ⟨gv, 0, none⟩) (i + 2) cv) rfl (by kernel_rfl) (by kernel_rfl) (by kernel_rfl) (fun _ _ _ h => h) (Or.inl ⟨by rfl, fun w' _ => by go_simp⟩) trivial ?_
     try simp only [Act.put, zz]
     refine wpAnyH_take (i := 7) (v := .int .i64 (nb : Int)) rfl (by kernel_rfl) (by kernel_rfl) (by kernel_rfl) (fun _ _ _ h => h) (Or.inl ⟨by rfl, fun w' _ => by go_simp⟩) trivial ?_
     try simp only [Act.put, zz]
     refine wpAnyH_take (i := 8) (v := .pointer (some ⟨gv, nb, none⟩)) rfl (by kernel_rfl) (by kernel_rfl) (by kernel_rfl) (fun _ _ _ h => h) (Or.inl ⟨by rfl, fun w' _ => by go_simp⟩) trivial ?_
     try simp only [Act.put, zz]
     refine wpAnyH_ready (rs := [5, 9]) (by kernel_rfl) (by simp) ?_
     refine AllReadyH.cons rfl (fun K hK => ?_) (AllReadyH.cons rfl (fun K hK => ?_) AllReadyH.nil)
     case refine_1 =>
      rw [if_pos (by rfl)]
      go_wp2_with fail
      refine hK.out _ _ trivial (fun hHeld => ?_)
      clear hK K
      try simp only [Act.put, zz]
      refine wpAnyH_ready (rs := [9]) (by kernel_rfl) (by simp) ?_
      refine AllReadyH.cons rfl (fun K hK => ?_) AllReadyH.nil
      rw [if_pos (by rfl)]
      go_wp2_with fail
      refine hK.out _ _ trivial (fun hHeld => ?_)
      clear hK K
      try simp only [Act.put, zz]
      refine wpAnyH_ready (rs := [10]) (by kernel_rfl) (by simp) ?_
      refine AllReadyH.cons rfl (fun K hK => ?_) AllReadyH.nil
      rw [if_pos (by rfl)]
      go_wp2_with fail
      refine (HN2.out _).mono ?_
      rintro e w6 ⟨rfl, rfl⟩
      have hown6 := own_below hown5 (Below.refl _ w3).drew
      have hbw6 : Below w.heap.size w w3.drew := hbw5.drew
      generalize w3.drew = w6 at hown6 hbw6 hK ⊢
      clear hown5 hbw5 ca cb
      refine hK.out _ _ trivial (fun hHeld => ?_)
      clear hK K
      try simp only [Act.put, zz]
      refine wpAnyH_ready (rs := [11]) (by kernel_rfl) (by simp) ?_
      refine AllReadyH.cons rfl (fun K hK => ?_) AllReadyH.nil
      rw [if_pos (by rfl)]
      go_wp2_with fail
      refine hK.out _ _ trivial (fun hHeld => ?_)
      clear hK K
      try simp only [Act.put, zz]
      refine wpAnyH_ready (rs := [12]) (by kernel_rfl) (by simp) ?_
      refine AllReadyH.cons rfl (fun K hK => ?_) AllReadyH.nil
      rw [if_pos (by rfl)]
      refine wp_append_lies _ _ _ 31 rfl w.heap.size 3 i0 (.int .i64 0) 1 8 Tryz.underlying31 hi hz0 hz1 hz2 rfl (by decide) _ _ _ rfl (hown6.alloc _) ⟨_, 0, none⟩ 1 1 [.int .i64 n] rfl rfl (cell_one_new _ _ _) (fun x hx => by simp at hx; subst hx; rfl) (by decide) (by unfold maxLen; omega) (by omega) (Nat.le_trans hbw6.size (by simp)) _ rfl ?_
      intro gw cw w7 hown7 hgrow7 _ _
      refine hK.out _ _ trivial (fun hHeld => ?_)
      clear hK K
      try simp only [Act.put, zz]
      refine wpAnyH_ready (rs := [13]) (by kernel_rfl) (by simp) ?_
      refine AllReadyH.cons rfl (fun K hK => ?_) AllReadyH.nil
      rw [if_pos (by rfl)]
      go_wp2_with fail
      refine hK.out _ _ trivial (fun hHeld => ?_)
      clear hK K
      try simp only [Act.put, zz]
      refine wpAnyH_done (by kernel_rfl) ?_ _
      have hbw7 : Below w.heap.size w w7 := (hbw6.alloc hbw6.size _).grown hgrow7 (Nat.le_trans hbw6.size (by simp)) (fun j hj => (hown6.lt j hj).1)
      clear hown6 hbw6 hgrow7
      go_wp2_with fail
      refine ⟨⟨i + 1, l ++ [⟨i + 2, .apply (kop q) (ofq q na nb)⟩], out ++ [n], by omega, by omega, ?_, by go_num, ?_, ?_, hbw7, ?_⟩, by simp [intOf]; omega⟩
      ·rw [line_apply, HT7.out]
      ·rw [ints_snoc]; exact hown7
      ·exact hide (by rw [List.length_append, hol.out]; rfl)
      ·have hc := HN1.out
       rw [<- HVAe.out, <- HVBe.out] at hc
       exact hide (hok.out.snoc ⟨kop_lt hq, ofq_len hq na nb, ofq_lt (by omega) (by omega)⟩ (ofq_lt (by omega) (by omega)) (ofq_comes hq _ out _ _ hc) (reckon_in32 HN1.out HVA.out HVB.out) (ofq_text hq (by omega) (by omega)) (by omega) (kop_div _ _))
     case refine_2 =>
      rw [if_pos (by rfl)]
      go_wp2_with fail
      refine hK.out _ _ trivial (fun hHeld => ?_)
      clear hK K
      try simp only [Act.put, zz]
      refine wpAnyH_ready (rs := [5]) (by kernel_rfl) (by simp) ?_
      refine AllReadyH.cons rfl (fun K hK => ?_) AllReadyH.nil
      rw [if_pos (by rfl)]
      go_wp2_with fail
      refine hK.out _ _ trivial (fun hHeld => ?_)
      clear hK K
      try simp only [Act.put, zz]
      refine wpAnyH_ready (rs := [10]) (by kernel_rfl) (by simp) ?_
      refine AllReadyH.cons rfl (fun K hK => ?_) AllReadyH.nil
      rw [if_pos (by rfl)]
      go_wp2_with fail
      refine (HN2.out _).mono ?_
      rintro e w6 ⟨rfl, rfl⟩
      have hown6 := own_below hown5 (Below.refl _ w3).drew
      have hbw6 : Below w.heap.size w w3.drew := hbw5.drew
      generalize w3.drew = w6 at hown6 hbw6 hK ⊢
      clear hown5 hbw5 ca cb
      refine hK.out _ _ trivial (fun hHeld => ?_)
      clear hK K
      try simp only [Act.put, zz]
      refine wpAnyH_ready (rs := [11]) (by kernel_rfl) (by simp) ?_
      refine AllReadyH.cons rfl (fun K hK => ?_) AllReadyH.nil
      rw [if_pos (by rfl)]
      go_wp2_with fail
      refine hK.out _ _ trivial (fun hHeld => ?_)
      clear hK K
      try simp only [Act.put, zz]
      refine wpAnyH_ready (rs := [12]) (by kernel_rfl) (by simp) ?_
      refine AllReadyH.cons rfl (fun K hK => ?_) AllReadyH.nil
      rw [if_pos (by rfl)]
      refine wp_append_lies _ _ _ 31 rfl w.heap.size 3 i0 (.int .i64 0) 1 8 Tryz.underlying31 hi hz0 hz1 hz2 rfl (by decide) _ _ _ rfl (hown6.alloc _) ⟨_, 0, none⟩ 1 1 [.int .i64 n] rfl rfl (cell_one_new _ _ _) (fun x hx => by simp at hx; subst hx; rfl) (by decide) (by unfold maxLen; omega) (by omega) (Nat.le_trans hbw6.size (by simp)) _ rfl ?_
      intro gw cw w7 hown7 hgrow7 _ _
      refine hK.out _ _ trivial (fun hHeld => ?_)
      clear hK K
      try simp only [Act.put, zz]
      refine wpAnyH_ready (rs := [13]) (by kernel_rfl) (by simp) ?_
      refine AllReadyH.cons rfl (fun K hK => ?_) AllReadyH.nil
      rw [if_pos (by rfl)]
      go_wp2_with fail
      refine hK.out _ _ trivial (fun hHeld => ?_)
      clear hK K
      try simp only [Act.put, zz]
      refine wpAnyH_done (by kernel_rfl) ?_ _
      have hbw7 : Below w.heap.size w w7 := (hbw6.alloc hbw6.size _).grown hgrow7 (Nat.le_trans hbw6.size (by simp)) (fun j hj => (hown6.lt j hj).1)
      clear hown6 hbw6 hgrow7
      go_wp2_with fail
      refine ⟨⟨i + 1, l ++ [⟨i + 2, .apply (kop q) (ofq q na nb)⟩], out ++ [n], by omega, by omega, ?_, by go_num, ?_, ?_, hbw7, ?_⟩, by simp [intOf]; omega⟩
      ·rw [line_apply, HT7.out]
      ·rw [ints_snoc]; exact hown7
      ·exact hide (by rw [List.length_append, hol.out]; rfl)
      ·have hc := HN1.out
       rw [<- HVAe.out, <- HVBe.out] at hc
       exact hide (hok.out.snoc ⟨kop_lt hq, ofq_len hq na nb, ofq_lt (by omega) (by omega)⟩ (ofq_lt (by omega) (by omega)) (ofq_comes hq _ out _ _ hc) (reckon_in32 HN1.out HVA.out HVB.out) (ofq_text hq (by omega) (by omega)) (by omega) (kop_div _ _))
  ·have hstop : ¬ ((i : Int) < acts.length /\ (i : Int) < 40) := by omega
   have himin : i = min acts.length 40 := by omega
   have HMIN := hide himin
   clear himin hgo
   by_cases hs1 : (i : Int) < acts.length
   ·have hs2 : ¬ (i : Int) < 40 := fun h => hstop ⟨hs1, h⟩
    go_wp2_with fail
    obtain ⟨pv', cv', hpv, hcs⟩ := ints_open (l := out) (by rw [hol.out]; exact hown)
    simp only [Value.slice.injEq] at hpv
    obtain ⟨rfl, -, rfl⟩ := hpv
    obtain ⟨gv, rfl, cn⟩ := hcs (i + 1) (by rw [hol.out]; omega)
    obtain ⟨vn, hvn⟩ : ∃ vn, out[i + 1]'(by rw [hol.out]; omega) = vn := ⟨_, rfl⟩
    rw [hvn] at cn
    have HVN := hide hvn
    clear hvn hcs
    have hgv := World.block_lt_of_cell? wr _ cn
    have HC : Hid (∀ w', Below wr.heap.size wr w' -> w'.cell? ⟨gv, i + 1, none⟩ = some (.int .i64 vn)) := hide fun w' hb => ((bcell hb).1 gv _ hgv).trans cn
    obtain ⟨dn, HDN, hdn⟩ : ∃ dn, Hid (bs (dec (i + 1)) = dn) /\ dn.size <= 2 := ⟨_, hide rfl, by rw [bs_size]; exact Code.dec_len _ 2 (by omega) (by omega)⟩
    have HD1 : Hid (∀ w', Calls Tryz.prog 26 #[.int .i64 ((i : Int) + 1)] w' fun e w'' => e = .returned (.string dn) /\ Below w'.heap.size w' w'') := hide fun w' => by
     rw [<- HDN.out]; exact kdigits_nat (i + 1) w' (by omega)
    simp only [show (i : Int) + 2 - 1 = (i : Int) + 1 by omega]
    have f1 : ¬ 9223372036854775807 < t.size + 5 := by omega
    have f2 : ¬ 9223372036854775807 < t.size + 5 + dn.size := by omega
    have f3 : ¬ 9223372036854775807 < t.size + 5 + dn.size + 1 := by omega
    have g1 : (0 : Int) <= (i : Int) + 1 := by omega
    have g2 : (i : Int) + 1 < (i : Int) + 2 := by omega
    clear hown hgv
    go_region_held3 (fun w' => Below wr.heap.size wr w' /\ w'.cell? ⟨gv, i + 1, none⟩ = some (.int .i64 vn)) (first | assumption | (go_split_ands; (try dsimp only); refine ⟨?_, HC.out _ ?_⟩ <;> (repeat' (first | assumption | exact Below.refl _ _ | apply Below.drew)))) (first | (go_at_call 26; refine (HD1.out _).mono ?_; rintro e w2 ⟨rfl, hb2⟩; have hb2' : Below wr.heap.size wr w2 := undrewB hb2))
    have HTX : Hid (t ++ ⟨#[114, 101, 116, 32, 118]⟩ ++ dn ++ ⟨#[10]⟩ = bs (madeText l)) := hide (by rw [madeText_is l (i + 1) (by rw [hok.out.len]), HT.out, HDN.out])
    have HVX : Hid (out.getD (l.length - 1) 0 = vn) := hide (by rw [hok.out.len, show i + 2 - 1 = i + 1 by omega, List.getD_eq_getElem?_getD, List.getElem?_eq_getElem (by rw [hol.out]; omega), <- HVN.out]; rfl)
    generalize t ++ ⟨#[114, 101, 116, 32, 118]⟩ ++ dn ++ ⟨#[10]⟩ = tx at HTX ⊢
    go_wp2_with fail
    go_ret2
    exact ⟨l, out, by rw [HVX.out, <- HTX.out]; rfl, by rw [<- HMIN.out]; exact hok.out, hbel.trans (hb2'.mono hbel.size)⟩
   ·clear hstop
    go_wp2_with fail
    obtain ⟨pv', cv', hpv, hcs⟩ := ints_open (l := out) (by rw [hol.out]; exact hown)
    simp only [Value.slice.injEq] at hpv
    obtain ⟨rfl, -, rfl⟩ := hpv
    obtain ⟨gv, rfl, cn⟩ := hcs (i + 1) (by rw [hol.out]; omega)
    obtain ⟨vn, hvn⟩ : ∃ vn, out[i + 1]'(by rw [hol.out]; omega) = vn := ⟨_, rfl⟩
    rw [hvn] at cn
    have HVN := hide hvn
    clear hvn hcs
    have hgv := World.block_lt_of_cell? wr _ cn
    have HC : Hid (∀ w', Below wr.heap.size wr w' -> w'.cell? ⟨gv, i + 1, none⟩ = some (.int .i64 vn)) := hide fun w' hb => ((bcell hb).1 gv _ hgv).trans cn
    obtain ⟨dn, HDN, hdn⟩ : ∃ dn, Hid (bs (dec (i + 1)) = dn) /\ dn.size <= 2 := ⟨_, hide rfl, by rw [bs_size]; exact Code.dec_len _ 2 (by omega) (by omega)⟩
    have HD1 : Hid (∀ w', Calls Tryz.prog 26 #[.int .i64 ((i : Int) + 1)] w' fun e w'' => e = .returned (.string dn) /\ Below w'.heap.size w' w'') := hide fun w' => by
     rw [<- HDN.out]; exact kdigits_nat (i + 1) w' (by omega)
    simp only [show (i : Int) + 2 - 1 = (i : Int) + 1 by omega]
    have f1 : ¬ 9223372036854775807 < t.size + 5 := by omega
    have f2 : ¬ 9223372036854775807 < t.size + 5 + dn.size := by omega
    have f3 : ¬ 9223372036854775807 < t.size + 5 + dn.size + 1 := by omega
    have g1 : (0 : Int) <= (i : Int) + 1 := by omega
    have g2 : (i : Int) + 1 < (i : Int) + 2 := by omega
    clear hown hgv
    go_region_held3 (fun w' => Below wr.heap.size wr w' /\ w'.cell? ⟨gv, i + 1, none⟩ = some (.int .i64 vn)) (first | assumption | (go_split_ands; (try dsimp only); refine ⟨?_, HC.out _ ?_⟩ <;> (repeat' (first | assumption | exact Below.refl _ _ | apply Below.drew)))) (first | (go_at_call 26; refine (HD1.out _).mono ?_; rintro e w2 ⟨rfl, hb2⟩; have hb2' : Below wr.heap.size wr w2 := undrewB hb2))
    have HTX : Hid (t ++ ⟨#[114, 101, 116, 32, 118]⟩ ++ dn ++ ⟨#[10]⟩ = bs (madeText l)) := hide (by rw [madeText_is l (i + 1) (by rw [hok.out.len]), HT.out, HDN.out])
    have HVX : Hid (out.getD (l.length - 1) 0 = vn) := hide (by rw [hok.out.len, show i + 2 - 1 = i + 1 by omega, List.getD_eq_getElem?_getD, List.getElem?_eq_getElem (by rw [hol.out]; omega), <- HVN.out]; rfl)
    generalize t ++ ⟨#[114, 101, 116, 32, 118]⟩ ++ dn ++ ⟨#[10]⟩ = tx at HTX ⊢
    go_wp2_with fail
    go_ret2
    exact ⟨l, out, by rw [HVX.out, <- HTX.out]; rfl, by rw [<- HMIN.out]; exact hok.out, hbel.trans (hb2'.mono hbel.size)⟩
theorem ActsAt.below {w w' : World} {p : Option Addr} {acts : List (Int × Int × Int)} (h : ActsAt w p acts) (hb : Below w.heap.size w w') : ActsAt w' p acts := fun i hi => by
 obtain ⟨g, o, e, hg, c0, c1, c2⟩ := h i hi
 exact ⟨g, o, e, Nat.lt_of_lt_of_le hg hb.size, ((bcell hb).1 g _ hg).trans c0, ((bcell hb).1 g _ hg).trans c1, ((bcell hb).1 g _ hg).trans c2⟩
theorem MadeOk.size {x y : Int} {l : List Code.Val} {out : List Int} {m : Nat} (h : MadeOk x y l out m) (hm : m <= 40) : (madeText l).length <= 1100 := by
 have h1 := h.text
 have h2 := Code.dec_len (l.length - 1) 2 (by omega) (by have := h.len; omega)
 have e : (madeText l).length = (hdr ++ Code.linesOf l).length + 5 + (dec (l.length - 1)).length + 1 := by
  simp [madeText, Code.oneBlock, hdr]
  omega
 omega
end Go.Proofs.YtedkjanogjglkaaGreatDoor
namespace Go.Proofs.YtedkjanogjglkaaGreatDoor.Code
inductive Sub : List Blk -> List Blk -> Prop
 | nil : Sub [] []
 | cons {a b : Blk} {g f : List Blk} : a.last = b.last -> a.values.Sublist b.values -> Sub g f -> Sub (a :: g) (b :: f)
theorem Sub.refl : ∀ f : List Blk, Sub f f
 | [] => .nil
 | _ :: f => .cons rfl (List.Sublist.refl _) (Sub.refl f)
theorem Sub.trans : ∀ {g f h : List Blk}, Sub g f -> Sub f h -> Sub g h
 | _, _, _, .nil, .nil => .nil
 | _, _, _, .cons a b c, .cons a' b' c' => .cons (a.trans a') (b.trans b') (Sub.trans c c')
theorem Sub.length : ∀ {g f : List Blk}, Sub g f -> g.length = f.length
 | _, _, .nil => rfl
 | _, _, .cons _ _ c => by simp [Sub.length c]
theorem Sub.count : ∀ {g f : List Blk}, Sub g f -> countB g <= countB f
 | _, _, .nil => Nat.le_refl _
 | _, _, .cons _ b c => by
  have := Sub.count c
  have := b.length_le
  simp only [countB, List.map_cons, List.sum_cons] at *
  omega
theorem Sub.same : ∀ {g f : List Blk}, Sub g f -> countB g = countB f -> g = f
 | _, _, .nil, _ => rfl
 | _, _, .cons (a := a) (b := b) h1 h2 h3, h => by
  have := Sub.count h3
  have := h2.length_le
  simp only [countB, List.map_cons, List.sum_cons] at *
  have e := h2.eq_of_length_le (by omega)
  have e2 := Sub.same h3 (by simp only [countB]; omega)
  cases a; cases b
  simp only at h1 e
  rw [h1, e, e2]
theorem Sub.used : ∀ {g f : List Blk}, Sub g f -> ∀ n, n ∈ g.flatMap usesB -> n ∈ f.flatMap usesB
 | _, _, .nil, n, h => h
 | _, _, .cons (a := a) (b := b) h1 h2 h3, n, h => by
  simp only [List.flatMap_cons, List.mem_append] at h ⊢
  rcases h with h | h
  ·left
   simp only [usesB, List.mem_append, List.mem_flatMap] at h ⊢
   rcases h with ⟨v, hv, hn⟩ | h
   ·exact Or.inl ⟨v, h2.subset hv, hn⟩
   ·exact Or.inr (h1 ▸ h)
  ·exact Or.inr (Sub.used h3 n h)
theorem keeps_mono {g f : List Blk} (h : Sub g f) {v : Val} (hv : keepsV g v = true) : keepsV f v = true := by
 simp only [keepsV, usedB, Bool.or_eq_true, List.contains_iff_mem] at hv ⊢
 rcases hv with h1 | h1
 ·exact Or.inl (h.used _ h1)
 ·exact Or.inr h1
def Supp (f : List Blk) : Prop := ∀ b ∈ f, ∀ v ∈ b.values, keepsV f v = true
theorem sub_filter (u : List Blk) : ∀ f : List Blk, Sub (f.map fun b => (⟨b.values.filter (keepsV u), b.last⟩ : Blk)) f
 | [] => .nil
 | _ :: f => .cons rfl List.filter_sublist (sub_filter u f)
theorem sweep1_sub (f : List Blk) : Sub (sweep1 f) f := sub_filter f f
theorem sub_keep (u : List Blk) : ∀ {g f : List Blk}, Sub g f -> (∀ b ∈ g, ∀ v ∈ b.values, keepsV u v = true) -> Sub g (f.map fun b => (⟨b.values.filter (keepsV u), b.last⟩ : Blk))
 | _, _, .nil, _ => .nil
 | _, _, .cons (a := a) (b := b) h1 h2 h3, hk => by
  refine .cons h1 ?_ (sub_keep u h3 (fun b hb => hk b (List.mem_cons_of_mem _ hb)))
  have h := h2.filter (keepsV u)
  rw [List.filter_eq_self.2 (hk a (List.mem_cons_self ..))] at h
  exact h
theorem supp_stays {g f : List Blk} (hs : Supp g) (h : Sub g f) : Sub g (sweep1 f) :=
 sub_keep f h (fun b hb v hv => keeps_mono h (hs b hb v hv))
structure Swept (f g : List Blk) : Prop where
 sub : Sub g f
 supp : Supp g
 most : ∀ h, Sub h f -> Supp h -> Sub h g
theorem supp_of_same {f : List Blk} (h : countB (sweep1 f) = countB f) : sweep1 f = f /\ Supp f := by
 have e := (sweep1_sub f).same h
 refine ⟨e, fun b hb v hv => ?_⟩
 rw [<- e] at hb
 simp only [sweep1, List.mem_map] at hb
 obtain ⟨b', _, rfl⟩ := hb
 exact (List.mem_filter.1 hv).2
theorem sweepF_swept : ∀ (n : Nat) (f : List Blk), countB f < n -> Swept f (sweepF n f)
 | 0, f, h => by omega
 | n + 1, f, h => by
  rw [sweepF]
  split
  ·rename_i hc
   obtain ⟨e, hs⟩ := supp_of_same hc
   rw [e]
   exact ⟨Sub.refl f, hs, fun _ h _ => h⟩
  ·rename_i hc
   have hlt : countB (sweep1 f) < countB f := Nat.lt_of_le_of_ne (sweep1_sub f).count hc
   have ih := sweepF_swept n (sweep1 f) (by omega)
   exact ⟨ih.sub.trans (sweep1_sub f), ih.supp, fun g hg hs => ih.most g (supp_stays hs hg) hs⟩
theorem sweep_swept (f : List Blk) : Swept f (sweep f) := sweepF_swept _ f (by omega)
end Go.Proofs.YtedkjanogjglkaaGreatDoor.Code
namespace Go.Proofs.YtedkjanogjglkaaGreatDoor
open Go.RowKit
open Go.Proofs.YtedkjanogjglkaaGreatDoor.Code (RTree Nm CRule Pair)
namespace Code
theorem pairsV_some {bks : List Blk} {rules : List CRule} {v : Val} {R : CRule} (hR : R ∈ rules) (hf : fitsAt bks v R = true) : ∀ (l : List Val) (i k : Nat), v ∈ l -> pairsV bks rules i k l ≠ []
 | u :: l, i, k, hv, h => by
  rw [pairsV, List.append_eq_nil_iff] at h
  rcases List.mem_cons.1 hv with rfl | hv
  ·have : R ∈ rules.filter (fitsAt bks v) := List.mem_filter.2 ⟨hR, hf⟩
   rw [List.map_eq_nil_iff.1 h.1] at this
   cases this
  ·exact pairsV_some hR hf l i (k + 1) hv h.2
theorem std_f2 {k : Nat} (h : k < 13) (h3 : k ≠ 3) (ho : opOf k = 2) : rF2 k ∈ stdRules := by
 match k, h, h3, ho with
 | 0, _, _, _ | 1, _, _, _ | 2, _, _, _ | 4, _, _, _ | 5, _, _, _ | 6, _, _, _ | 7, _, _, _ | 8, _, _, _ | 9, _, _, _ | 10, _, _, _ => simp [stdRules]
 | 11, _, _, ho | 12, _, _, ho => cases ho
 | 3, _, h3, _ => exact absurd rfl h3
theorem std_f1 {k : Nat} (h : k < 13) (ho : opOf k = 1) : rF1 k ∈ stdRules := by
 match k, h, ho with
 | 0, _, ho | 1, _, ho | 2, _, ho | 3, _, ho | 4, _, ho | 5, _, ho | 6, _, ho | 7, _, ho | 8, _, ho | 9, _, ho | 10, _, ho => cases ho
 | 11, _, _ | 12, _, _ => simp [stdRules]
theorem const_fits {th : Nat -> Option Thing} {n k : Nat} {of : List Nat} (hn : th n = some (.apply k of)) (hk : k < 13) (h3 : k ≠ 3) (ho : of.length = opOf k) (hc : ∀ x ∈ of, ∃ c, th x = some (.const c)) : ∃ R ∈ stdRules, (fits th R.node n []).isSome = true := by
 have hcc : ∀ x ∈ of, ∃ c, constOf th x = some c := fun x hx => by
  obtain ⟨c, e⟩ := hc x hx
  exact ⟨c, by unfold constOf; rw [e]⟩
 match of, ho with
 | [], ho =>
  have := (opOf_pos hk).1
  rw [<- ho] at this; cases this
 | [x], ho =>
  obtain ⟨c, hx⟩ := hcc x (by simp)
  refine ⟨_, std_f1 hk ho.symm, ?_⟩
  simp only [rF1, hA, fits, hn, if_true, fitsAll, hx, lookK, List.find?_nil, Option.map_none, Option.bind_some, Option.isSome_some]
 | [x, y], ho =>
  obtain ⟨c, hx⟩ := hcc x (by simp)
  obtain ⟨e, hy⟩ := hcc y (by simp)
  refine ⟨_, std_f2 hk h3 ho.symm, ?_⟩
  simp only [rF2, hA, hB, fits, hn, if_true, fitsAll, hx, hy, lookK, List.find?_nil, Option.map_none, Option.bind_some]
  rfl
 | _ :: _ :: _ :: _, ho =>
  have := (opOf_pos hk).2
  rw [<- ho] at this
  simp only [List.length_cons] at this
  omega
theorem all_const {t : Bool} {σ : Nat -> Int} {vs : List Val} {r : Nat} (h : Ok1 0 [] t true σ vs r) (hp : pairs stdRules [⟨vs, .ret r⟩] = []) : ∀ (B A : List Val), vs = A ++ B -> (∀ u ∈ A, ∃ c, u.thing = .const c) -> ∀ u ∈ B, ∃ c, u.thing = .const c
 | [], _, _, _, u, hu => by cases hu
 | v :: B, A, e, hA, u, hu => by
  have hv : ∃ c, v.thing = .const c := by
   subst e
   have hvm : v ∈ A ++ v :: B := List.mem_append_right _ (List.mem_cons_self ..)
   obtain ⟨_, hg⟩ := h.good v hvm
   have hone : OnceN [⟨A ++ v :: B, .ret r⟩] := by
    unfold OnceN
    rw [List.flatMap_cons, List.flatMap_nil, List.append_nil]
    exact h.once
   have hth : ∀ u ∈ A ++ v :: B, things [⟨A ++ v :: B, .ret r⟩] u.num = some u.thing := fun u hu => things_at hone (List.mem_singleton.2 rfl) hu
   have hl := (line_app.1 h.line).2.1
   have hnd := h.nod rfl v hvm
   have hthv := hth v hvm
   generalize hvt : v.thing = T at *
   cases T with
   | phi of => exact absurd hg id
   | arg n => exact absurd hg (Nat.not_lt_zero _)
   | const c => exact ⟨c, rfl⟩
   | apply k of =>
    have h3 : k ≠ 3 := fun e => by subst e; cases hnd
    obtain ⟨R, hR, hf⟩ := const_fits hthv hg.1 h3 hg.2.1 (fun x hx => by
     have := (hl x hx).elim (fun h => h.elim) id
     obtain ⟨u, hu, rfl⟩ := List.mem_map.1 this
     obtain ⟨c, hc⟩ := hA u hu
     exact ⟨c, by rw [hth u (List.mem_append_left _ hu), hc]⟩)
    unfold pairs at hp
    rw [pairsB, List.append_eq_nil_iff] at hp
    exact absurd hp.1 (pairsV_some hR hf _ 0 0 hvm)
  rcases List.mem_cons.1 hu with rfl | hu
  ·exact hv
  ·refine all_const h hp B (A ++ [v]) (by rw [e]; simp) (fun z hz => ?_) u hu
   rcases List.mem_append.1 hz with hz | hz
   ·exact hA z hz
   ·rw [List.mem_singleton.1 hz]; exact hv
theorem one_const {t : Bool} {σ : Nat -> Int} {vs : List Val} {r : Nat} (h : Ok1 0 [] t true σ vs r) (hs : Supp [⟨vs, .ret r⟩]) (hp : pairs stdRules [⟨vs, .ret r⟩] = []) : ∃ v c, vs = [v] /\ v.thing = .const c := by
 have hc := all_const h hp vs [] rfl (fun u hu => by cases hu)
 have hnum : ∀ v ∈ vs, v.num = r := fun v hv => by
  have := hs _ (List.mem_singleton.2 rfl) v hv
  unfold keepsV at this
  rw [h.nod rfl v hv, Bool.or_false, used_one] at this
  rcases this with ⟨u, hu, hx⟩ | e
  ·obtain ⟨c, e⟩ := hc u hu
   rw [e] at hx
   cases hx
  ·exact e
 match vs, h, hc, hnum with
 | [], h, _, _ => cases h.last
 | [v], _, hc, _ =>
  obtain ⟨c, e⟩ := hc v (by simp)
  exact ⟨v, c, rfl, e⟩
 | v :: u :: l, h, _, hn =>
  have := h.once
  rw [List.map_cons, List.map_cons, List.nodup_cons, hn v (by simp), hn u (by simp)] at this
  exact absurd (List.mem_cons_self ..) this.1
theorem rew_end {a : Nat} {rules : List CRule} {picks : List Int} {k m : Nat} {bks out : List Blk} {e : Int} (h : RewS a rules picks k bks out m e) : (e = 0 -> pairs rules out = []) /\ (out = bks \/ Supp out) := by
 induction h with
 | done h => exact ⟨fun _ => h, Or.inl rfl⟩
 | room _ _ => exact ⟨(fun h => by cases h), Or.inl rfl⟩
 | next hp hs _ ih =>
  refine ⟨ih.1, Or.inr ?_⟩
  rcases ih.2 with rfl | h
  ·unfold stepR at hs
   simp only [Option.bind_eq_some_iff, Option.filter_eq_some_iff] at hs
   obtain ⟨v, _, kn, _, hst, _⟩ := hs
   unfold stepB1 at hst
   split at hst
   ·simp only [Option.some.injEq] at hst
    rw [<- hst]; exact (sweep_swept _).supp
   ·split at hst
    ·cases hst
    ·simp only [Option.some.injEq] at hst
     rw [<- hst]; exact (sweep_swept _).supp
  ·exact h
end Code
end Go.Proofs.YtedkjanogjglkaaGreatDoor
