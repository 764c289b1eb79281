/-
  Parts of the proof: KMade, SdSound.
-/
import Derived.Test.YtedkjanogjglkaaGreatDoorP21
import Derived.Test.YtedkjanogjglkaaGreatDoorP27
set_option maxRecDepth 100000
set_option maxHeartbeats 8000000
namespace Go.Proofs.YtedkjanogjglkaaGreatDoor
open Go.RowKit
open Go.Proofs.YtedkjanogjglkaaGreatDoor.Ref (dec ch digits)
theorem made_any (acts : List (Int × Int × Int)) (p : Option Addr) (cap : Nat) (x y : Int) (w : World) (ha : ActsAt w p acts) (hin : ∀ a ∈ acts, In64 a.1 /\ In64 a.2.1 /\ In64 a.2.2)
  (hx : -2147483648 <= x /\ x < 2147483648) (hy : -2147483648 <= y /\ y < 2147483648) (hal : acts.length <= 9223372036854775807) :
  Calls Tryz.prog 24 #[.slice p acts.length cap, .int .i64 x, .int .i64 y] w fun e w' =>
   ∃ l out, e = .returned (.tuple #[.string (bs (madeText l)), .int .i64 (out.getD (l.length - 1) 0)]) /\ MadeOk x y l out (min acts.length 40) /\ Below w.heap.size w w' := by
 obtain ⟨i0, hi, hz0, hz1, hz2⟩ := info_parts infoInt
 have HA := hide ha
 have HIN := hide hin
 have HX := hide hx
 have HY := hide hy
 clear ha hin hx hy
 go_enter Tryz.func24, Tryz.ntmps24
 go_wp2
 go_loopw [8, 9, 10] (fun a b c wr => ∃ (i : Nat) (l : List Code.Val) (out : List Int), i <= acts.length /\ i <= 40 /\ a = .string (bs (hdr ++ Code.linesOf l)) /\ c = .int .i64 (i : Nat) /\ wr.ownsRow w.heap.size 3 1 b (i + 2) (ints out) /\ Hid (out.length = i + 2) /\ Below w.heap.size w wr /\ Hid (MadeOk x y l out i))
  (fun _ _ c _ => 40 - (intOf c).toNat)
 case atStart => exact ⟨0, [⟨0, .arg 0⟩, ⟨1, .arg 1⟩], [x, y], by omega, by omega, by rw [hdr_two], rfl, own_ints2 w x y rfl (Nat.le_refl _), hide rfl, (Below.refl _ _).alloc (Nat.le_refl _) _, hide (MadeOk.start HX.out HY.out)⟩
 case round =>
  obtain ⟨i, l, out, hi1, hi2, rfl, rfl, hown, hol, hbel, hok⟩ := hrel
  obtain ⟨pv, cv, rfl⟩ := own_slice hown
  have hts := hok.out.text
  have hbz := bs_size (hdr ++ Code.linesOf l)
  rw [<- hbz] at hts
  clear hbz
  generalize hT : bs (hdr ++ Code.linesOf l) = t at *
  have HT := hide hT
  clear hT
  by_cases hgo : i < acts.length /\ i < 40
  ·obtain ⟨hia, hi40⟩ := hgo
   obtain ⟨g, o, rfl, hg, c0, c1, c2⟩ := HA.out i hia
   obtain ⟨hk, hka, hkb⟩ := HIN.out _ (List.getElem_mem hia)
   rcases hact : acts[i] with ⟨k, a, b⟩
   rw [hact] at c0 c1 c2 hk hka hkb
   have HACT := hide hact
   clear hact
   dsimp only at c0 c1 c2 hk hka hkb
   have d0 := ((bcell hbel).1 g _ hg).trans c0
   have d1 := ((bcell hbel).1 g _ hg).trans c1
   have d2 := ((bcell hbel).1 g _ hg).trans c2
   clear c0 c1 c2
   go_wp2_with fail
   generalize hw1 : wr.alloc _ = w1
   have hx1 : w1.heap[wr.heap.size]? = some (.cells #[.int .i64 k, .int .i64 a, .int .i64 b] 100) := by rw [<- hw1]; exact heap_alloc_new wr _
   have hb1 : Below w.heap.size w w1 := by rw [<- hw1]; exact below_al hbel _
   have hown1 : w1.ownsRow w.heap.size 3 1 (.slice pv (i + 2) cv) (i + 2) (ints out) := by rw [<- hw1]; exact hown.alloc _
   have q1 := blk_cell hx1 1 _ rfl
   have q2 := blk_cell hx1 2 _ rfl
   have q0 := blk_cell hx1 0 _ rfl
   clear hw1 hown hbel d0 d1 d2 hx1
   generalize wr.heap.size = ab at *
   refine (pickn_any k 3 (by omega) (by omega) hk.1 hk.2 w1).mono ?_
   rintro e w1 ⟨rfl, rfl⟩
   by_cases h3 : pickN k 3 = 0
   ·rw [h3]
    go_wp2_with fail
    refine (long_any a w1).mono ?_
    rintro e w1 ⟨rfl, rfl⟩
    go_wp2_with fail
    refine (pickn_any b 2 (by omega) (by omega) hkb.1 hkb.2 w1).mono ?_
    rintro e w1 ⟨rfl, rfl⟩
    by_cases h2 : pickN b 2 = 0
    ·rw [h2]
     go_wp2_with fail
     refine (pickn_any a 10 (by omega) (by omega) hka.1 hka.2 w1).mono ?_
     rintro e w1 ⟨rfl, rfl⟩
     have h10 := pickN_lt a 10 (by omega)
     obtain ⟨c, hc⟩ : ∃ c : Int, ((pickN a 10 : Nat) : Int) = c + 1 := ⟨_, (Int.sub_add_cancel _ 1).symm⟩
     have hbb : -2147483648 <= c /\ c < 2147483648 := by omega
     rw [hc]
     clear hc h10
     go_wp2_with fail
     rw [show (i : Int) + 2 = ((i + 2 : Nat) : Int) by omega]
     refine (kdigits_nat (i + 2) w1 (by omega)).mono ?_
     rintro e w2 ⟨rfl, hb2⟩
     have hdl := Code.dec_len (i + 2) 2 (by omega) (by omega)
     rw [<- bs_size] at hdl
     generalize hD : bs (dec (i + 2)) = dn at *
     have HD := hide hD
     clear hD
     go_wp2_with fail
     refine (kdigits_any c w2 (by omega)).mono ?_
     rintro e w3 ⟨rfl, hb3⟩
     have hcl := textT_const c hbb.1 hbb.2
     have hcl2 : (bs (digits c)).size <= 17 := by
      rw [bs_size]
      have : (Code.textT (.const c)).length = 6 + (digits c).length := by show ([99, 111, 110, 115, 116, 32] ++ digits c).length = _; rw [List.length_append]; rfl
      omega
     clear hcl
     generalize hE : bs (digits c) = dc at *
     have HE := hide hE
     clear hE
     have hb13 : Below w1.heap.size w1 w3 := hb2.trans (hb3.mono hb2.size)
     have hown3 := own_below hown1 hb13
     have hbw : Below w.heap.size w w3 := hb1.trans (hb13.mono hb1.size)
     have hsz := hbw.size
     have HB := hide hbb
     clear hb2 hb3 hbb hown1 hb1 hb13 q0 q1 q2
     go_wp2_with (first | (at_builtin; refine wpList_append_own _ rfl _ _ 31 rfl w.heap.size 3 i0 (.int .i64 0) 1 8 Tryz.underlying31 hi hz0 hz1 hz2 rfl (by decide) _ _ _ rfl (hown3.alloc _) ⟨_, 0, none⟩ 1 1 [.int .i64 c] rfl rfl (cell_one_new _ _ _) (fun x hx => by simp at hx; subst hx; rfl) (by unfold maxLen; omega) (by omega) (by simp; omega) ?_; intro v' w4 hown' hgrow4 hnil4))
     refine ⟨⟨i + 1, l ++ [⟨i + 2, .const c⟩], out ++ [c], by omega, by omega, ?_, by go_num, ?_, ?_, ?_, ?_⟩, by simp [intOf]; omega⟩
     ·rw [line_const, HT.out, HD.out, HE.out]; rfl
     ·rw [ints_snoc]; exact hown'
     ·exact hide (by rw [List.length_append, hol.out]; rfl)
     ·exact (hbw.alloc hsz _).grown hgrow4 (by simp; omega) (fun j hj => (hown3.lt j hj).1)
     ·exact hide (hok.out.snoc HB.out (fun z hz => by cases hz) rfl HB.out (textT_const c HB.out.1 HB.out.2) (by omega) ⟨(fun _ h => by cases h), (fun _ h => by cases h)⟩)
    ·have hbb := w32_in32 a
     generalize hcc : wrap32 a = c at *
     clear hcc
     have h2' : ((pickN b 2 : Nat) : Int) ≠ 0 := by omega
     go_wp2_with fail
     rw [show (i : Int) + 2 = ((i + 2 : Nat) : Int) by omega]
     refine (kdigits_nat (i + 2) w1 (by omega)).mono ?_
     rintro e w2 ⟨rfl, hb2⟩
     have hdl := Code.dec_len (i + 2) 2 (by omega) (by omega)
     rw [<- bs_size] at hdl
     generalize hD : bs (dec (i + 2)) = dn at *
     have HD := hide hD
     clear hD
     go_wp2_with fail
     refine (kdigits_any c w2 (by omega)).mono ?_
     rintro e w3 ⟨rfl, hb3⟩
     have hcl := textT_const c hbb.1 hbb.2
     have hcl2 : (bs (digits c)).size <= 17 := by
      rw [bs_size]
      have : (Code.textT (.const c)).length = 6 + (digits c).length := by show ([99, 111, 110, 115, 116, 32] ++ digits c).length = _; rw [List.length_append]; rfl
      omega
     clear hcl
     generalize hE : bs (digits c) = dc at *
     have HE := hide hE
     clear hE
     have hb13 : Below w1.heap.size w1 w3 := hb2.trans (hb3.mono hb2.size)
     have hown3 := own_below hown1 hb13
     have hbw : Below w.heap.size w w3 := hb1.trans (hb13.mono hb1.size)
     have hsz := hbw.size
     have HB := hide hbb
     clear hb2 hb3 hbb hown1 hb1 hb13 q0 q1 q2
     go_wp2_with (first | (at_builtin; refine wpList_append_own _ rfl _ _ 31 rfl w.heap.size 3 i0 (.int .i64 0) 1 8 Tryz.underlying31 hi hz0 hz1 hz2 rfl (by decide) _ _ _ rfl (hown3.alloc _) ⟨_, 0, none⟩ 1 1 [.int .i64 c] rfl rfl (cell_one_new _ _ _) (fun x hx => by simp at hx; subst hx; rfl) (by unfold maxLen; omega) (by omega) (by simp; omega) ?_; intro v' w4 hown' hgrow4 hnil4))
     refine ⟨⟨i + 1, l ++ [⟨i + 2, .const c⟩], out ++ [c], by omega, by omega, ?_, by go_num, ?_, ?_, ?_, ?_⟩, by simp [intOf]; omega⟩
     ·rw [line_const, HT.out, HD.out, HE.out]; rfl
     ·rw [ints_snoc]; exact hown'
     ·exact hide (by rw [List.length_append, hol.out]; rfl)
     ·exact (hbw.alloc hsz _).grown hgrow4 (by simp; omega) (fun j hj => (hown3.lt j hj).1)
     ·exact hide (hok.out.snoc HB.out (fun z hz => by cases hz) rfl HB.out (textT_const c HB.out.1 HB.out.2) (by omega) ⟨(fun _ h => by cases h), (fun _ h => by cases h)⟩)
   ·have h3' : ((pickN k 3 : Nat) : Int) ≠ 0 := by omega
    go_wp2_with fail
    refine (pickn_any k 36 (by omega) (by omega) hk.1 hk.2 w1).mono ?_
    rintro e w1 ⟨rfl, rfl⟩
    have h36 := pickN_lt k 36 (by omega)
    obtain ⟨q, r, hqr, hr3, hq⟩ : ∃ q r, pickN k 36 = 3 * q + r /\ r < 3 /\ q < 12 := ⟨pickN k 36 / 3, pickN k 36 % 3, by omega, by omega, by omega⟩
    rw [hqr]
    clear h36 hqr
    go_wp2_with fail
    simp only [show (i : Int) + 2 = ((i + 2 : Nat) : Int) by omega]
    refine (pickn_any a (i + 2) (by omega) (by omega) hka.1 hka.2 w1).mono ?_
    rintro e w1 ⟨rfl, rfl⟩
    have hA := pickN_lt a (i + 2) (by omega)
    generalize pickN a (i + 2) = na at *
    go_wp2_with fail
    have hq3 : (3 * (q : Int) + (r : Int)) / 3 = (q : Int) := by omega
    simp only [hq3, show (i : Int) + 2 = ((i + 2 : Nat) : Int) by omega]
    refine (pickn_any b (i + 2) (by omega) (by omega) hkb.1 hkb.2 w1).mono ?_
    rintro e w1 ⟨rfl, rfl⟩
    have hB := pickN_lt b (i + 2) (by omega)
    generalize pickN b (i + 2) = nb at *
    obtain ⟨dn, HDN, hdn⟩ : ∃ dn, Hid (bs (dec (i + 2)) = dn) /\ dn.size <= 2 := ⟨_, hide rfl, by rw [bs_size]; exact Code.dec_len _ 2 (by omega) (by omega)⟩
    obtain ⟨dm, HDM, hdm⟩ : ∃ dm, Hid (bs (dec na) = dm) /\ dm.size <= 2 := ⟨_, hide rfl, by rw [bs_size]; exact Code.dec_len _ 2 (by omega) (by omega)⟩
    obtain ⟨nm, HNM, hnm⟩ : ∃ nm, Hid (bs (Code.nameOf (kop q)) = nm) /\ nm.size <= 3 := ⟨_, hide rfl, by rw [bs_size]; exact name_len q hq⟩
    have HD1 : Hid (∀ w', Calls Tryz.prog 26 #[.int .i64 ((i : Int) + 2)] w' fun e w'' => e = .returned (.string dn) /\ Below w'.heap.size w' w'') := hide fun w' => by
     rw [<- HDN.out]; exact kdigits_nat (i + 2) w' (by omega)
    have HD2 : Hid (∀ w', Calls Tryz.prog 26 #[.int .i64 (na : Int)] w' fun e w'' => e = .returned (.string dm) /\ Below w'.heap.size w' w'') := hide fun w' => by
     rw [<- HDM.out]; exact kdigits_nat na w' (by omega)
    have HO : Hid (∀ w', Calls Tryz.prog 47 #[] w' fun e w'' => ∃ g, e = .returned (.slice (some ⟨g, 0, none⟩) 12 12) /\ w''.cell? ⟨g, q, none⟩ = some (.string nm) /\ Below w'.heap.size w' w'' /\ g < w''.heap.size) := hide fun w' => by
     refine (ops_any w').mono ?_
     rintro e w'' ⟨g, rfl, h1, h2, h3⟩
     exact ⟨g, rfl, by rw [<- HNM.out]; exact h1 q hq, h2, h3⟩
    have hq0 : (0 : Int) <= (q : Int) := by omega
    have hq12 : (q : Int) < 12 := by omega
    go_wp2_with fail
    have f1 : ¬ 9223372036854775807 < t.size + 1 := by omega
    have f2 : ¬ 9223372036854775807 < t.size + 1 + dn.size := by omega
    have f3 : ¬ 9223372036854775807 < t.size + 1 + dn.size + 3 := by omega
    have f4 : ¬ 9223372036854775807 < t.size + 1 + dn.size + 3 + nm.size := by omega
    have f5 : ¬ 9223372036854775807 < t.size + 1 + dn.size + 3 + nm.size + 2 := by omega
    have f6 : ¬ 9223372036854775807 < t.size + 1 + dn.size + 3 + nm.size + 2 + dm.size := by omega
    refine wp_region_held_drew (S := fun w' => Below w1.heap.size w1 w') (by kernel_rfl) (Below.refl _ w1).drew (fun hHeld => ?_)
    refine wpAnyH_take (i := 0) (v := .string t) rfl (by kernel_rfl) (by kernel_rfl) (by kernel_rfl) (fun _ _ _ h => h) (Or.inl ⟨by rfl, fun w' _ => by go_simp⟩) hHeld ?_
    try simp only [Act.put, zz]
    refine wpAnyH_take (i := 1) (v := .string (t ++ ⟨#[118]⟩)) rfl (by kernel_rfl) (by kernel_rfl) (by kernel_rfl) (fun _ _ _ h => h) (Or.inl ⟨by rfl, fun w' _ => by go_simp⟩) hHeld ?_
    try simp only [Act.put, zz]
    refine wpAnyH_take (i := 2) (v := .int .i64 ((i : Int) + 2)) rfl (by kernel_rfl) (by kernel_rfl) (by kernel_rfl) (fun _ _ _ h => h) (Or.inl ⟨by rfl, fun w' _ => by go_simp⟩) hHeld ?_
    try simp only [Act.put, zz]
    refine wpAnyH_take (i := 7) (v := .int .i64 (q : Int)) rfl (by kernel_rfl) (by kernel_rfl) (by kernel_rfl) (fun _ _ _ h => h) (Or.inl ⟨by rfl, fun w' _ => by go_simp⟩) hHeld ?_
    try simp only [Act.put, zz]
    refine wpAnyH_take (i := 12) (v := .int .i64 (na : Int)) rfl (by kernel_rfl) (by kernel_rfl) (by kernel_rfl) (fun _ _ _ h => h) (Or.inl ⟨by rfl, fun w' _ => by go_simp⟩) hHeld ?_
    try simp only [Act.put, zz]
    refine wpAnyH_ready (rs := [3]) (by kernel_rfl) (by simp) ?_
    refine AllReadyH.cons rfl (fun K hK => ?_) AllReadyH.nil
    rw [if_pos (by rfl)]
    go_wp2_with fail
    refine (HD1.out _).mono ?_
    rintro e w2 ⟨rfl, hb2⟩
    have hb2' : Below w1.heap.size w1 w2 := undrewB hb2
    refine hK.out _ _ hb2' (fun hHeld => ?_)
    clear hK K
    try simp only [Act.put, zz]
    refine wpAnyH_take (i := 4) (v := .string (t ++ ⟨#[118]⟩ ++ dn)) rfl (by kernel_rfl) (by kernel_rfl) (by kernel_rfl) (fun _ _ _ h => h) (Or.inl ⟨by rfl, fun w' _ => by go_simp⟩) hHeld ?_
    try simp only [Act.put, zz]
    refine wpAnyH_take (i := 5) (v := .string (t ++ ⟨#[118]⟩ ++ dn ++ ⟨#[32, 61, 32]⟩)) rfl (by kernel_rfl) (by kernel_rfl) (by kernel_rfl) (fun _ _ _ h => h) (Or.inl ⟨by rfl, fun w' _ => by go_simp⟩) hHeld ?_
    try simp only [Act.put, zz]
    refine wpAnyH_ready (rs := [6]) (by kernel_rfl) (by simp) ?_
    refine AllReadyH.cons rfl (fun K hK => ?_) AllReadyH.nil
    rw [if_pos (by rfl)]
    go_wp2_with fail
    refine (HO.out _).mono ?_
    rintro e w4 ⟨gg, rfl, hcell, hb4, hgl⟩
    have hb4' : Below w1.heap.size w1 w4 := hb2'.trans (hb4.mono hb2'.size)
    refine hK.out _ _ hb4' (fun hHeld => ?_)
    clear hK K
    refine held_mono (S' := fun w' => Below w1.heap.size w1 w' /\ w'.cell? ⟨gg, q, none⟩ = some (.string nm)) (fun _ h => h.1) _ _ _ _ ?_
    have hHeld2 : Below w1.heap.size w1 w4 /\ w4.cell? ⟨gg, q, none⟩ = some (.string nm) := ⟨hb4', hcell⟩
    try simp only [Act.put, zz]
    refine wpAnyH_take (i := 8) (v := .pointer (some ⟨gg, q, none⟩)) rfl (by kernel_rfl) (by kernel_rfl) (by kernel_rfl) (fun _ _ _ h => h) (Or.inl ⟨by rfl, fun w' _ => by go_simp⟩) hHeld2 ?_
    try simp only [Act.put, zz]
    refine wpAnyH_take (i := 9) (v := .string nm) rfl (by kernel_rfl) (by kernel_rfl) (by kernel_rfl) (fun _ _ _ h => h) (Or.inl ⟨by rfl, fun w' h => by have hc := h.2; go_simp⟩) hHeld2 ?_
    try simp only [Act.put, zz]
    refine wpAnyH_take (i := 10) (v := .string (t ++ ⟨#[118]⟩ ++ dn ++ ⟨#[32, 61, 32]⟩ ++ nm)) rfl (by kernel_rfl) (by kernel_rfl) (by kernel_rfl) (fun _ _ _ h => h) (Or.inl ⟨by rfl, fun w' _ => by go_simp⟩) hHeld2 ?_
    try simp only [Act.put, zz]
    refine wpAnyH_take (i := 11) (v := .string (t ++ ⟨#[118]⟩ ++ dn ++ ⟨#[32, 61, 32]⟩ ++ nm ++ ⟨#[32, 118]⟩)) rfl (by kernel_rfl) (by kernel_rfl) (by kernel_rfl) (fun _ _ _ h => h) (Or.inl ⟨by rfl, fun w' _ => by go_simp⟩) hHeld2 ?_
    try simp only [Act.put, zz]
    refine wpAnyH_ready (rs := [13]) (by kernel_rfl) (by simp) ?_
    refine AllReadyH.cons rfl (fun K hK => ?_) AllReadyH.nil
    rw [if_pos (by rfl)]
    go_wp2_with fail
    refine (HD2.out _).mono ?_
    rintro e w3 ⟨rfl, hb3⟩
    have hb3' : Below w1.heap.size w1 w3 := hb4'.trans (hb3.mono hb4'.size)
    have hHeld3 : Below w1.heap.size w1 w3 /\ w3.cell? ⟨gg, q, none⟩ = some (.string nm) := ⟨hb3', ((bcell hb3).1 gg q hgl).trans hcell⟩
    refine hK.out _ _ hHeld3 (fun hHeld => ?_)
    clear hK K
    try simp only [Act.put, zz]
    refine wpAnyH_take (i := 14) (v := .string (t ++ ⟨#[118]⟩ ++ dn ++ ⟨#[32, 61, 32]⟩ ++ nm ++ ⟨#[32, 118]⟩ ++ dm)) rfl (by kernel_rfl) (by kernel_rfl) (by kernel_rfl) (fun _ _ _ h => h) (Or.inl ⟨by rfl, fun w' _ => by go_simp⟩) hHeld3 ?_
    try simp only [Act.put, zz]
    refine wpAnyH_take (i := 15) (v := .string (t ++ ⟨#[118]⟩ ++ dn ++ ⟨#[32, 61, 32]⟩ ++ nm ++ ⟨#[32, 118]⟩ ++ dm)) rfl (by kernel_rfl) (by kernel_rfl) (by kernel_rfl) (fun _ _ _ h => h) (Or.inl ⟨by rfl, fun w' _ => by go_simp⟩) hHeld3 ?_
    try simp only [Act.put, zz]
    refine wpAnyH_done (by kernel_rfl) ?_ _
    have hown3 := own_below hown1 hb3'
    have hbw : Below w.heap.size w w3 := hb1.trans (hb3'.mono hb1.size)
    have HT6 : Hid (t ++ ⟨#[118]⟩ ++ dn ++ ⟨#[32, 61, 32]⟩ ++ nm ++ ⟨#[32, 118]⟩ ++ dm = bs (hdr ++ Code.linesOf l ++ [118] ++ dec (i + 2) ++ [32, 61, 32] ++ Code.nameOf (kop q) ++ [32, 118] ++ dec na)) := hide (by
     rw [<- HT.out, <- HDN.out, <- HNM.out, <- HDM.out]
     simp only [<- bs_append]; rfl)
    have hs6 : (t ++ ⟨#[118]⟩ ++ dn ++ ⟨#[32, 61, 32]⟩ ++ nm ++ ⟨#[32, 118]⟩ ++ dm).size <= 5000 := by
     simp only [ByteArray.size_append', ByteArray.size_mk']
     show t.size + 1 + dn.size + 3 + nm.size + 2 + dm.size <= 5000
     omega
    generalize t ++ ⟨#[118]⟩ ++ dn ++ ⟨#[32, 61, 32]⟩ ++ nm ++ ⟨#[32, 118]⟩ ++ dm = t6 at *
    clear f1 f2 f3 f4 f5 f6 hb2 hb3 hb4 hb2' hb4' hb3' hHeld hHeld2 hHeld3 hcell hgl hown1 hb1 q0 q1 q2
    have hna0 : (0 : Int) <= (na : Int) := by omega
    have hna1 : (na : Int) < (i : Int) + 2 := by omega
    have hnb0 : (0 : Int) <= (nb : Int) := by omega
    have hnb1 : (nb : Int) < (i : Int) + 2 := by omega
    by_cases hq10 : q < 10
    ·have hq10' : (q : Int) < 10 := by omega
     have HOF : Hid (ofq q na nb = [na, nb]) := hide (if_pos hq10)
     clear hq10
     go_wp2_with fail
     refine (kdigits_nat nb w3 (by omega)).mono ?_
     rintro e w5 ⟨rfl, hb5⟩
     obtain ⟨db, HDB, hdb⟩ : ∃ db, Hid (bs (dec nb) = db) /\ db.size <= 2 := ⟨_, hide rfl, by rw [bs_size]; exact Code.dec_len _ 2 (by omega) (by omega)⟩
     rw [HDB.out]
     have hown5 := own_below hown3 hb5
     have hbw5 : Below w.heap.size w w5 := hbw.trans (hb5.mono hbw.size)
     clear hown3 hbw hb5
     go_wp2_with fail
     have hs7 : (t6 ++ ⟨#[32, 118]⟩ ++ db ++ ⟨#[10]⟩).size <= 5100 := by
      simp only [ByteArray.size_append', ByteArray.size_mk']
      show t6.size + 2 + db.size + 1 <= 5100
      omega
     have HT7 : Hid (t6 ++ ⟨#[32, 118]⟩ ++ db ++ ⟨#[10]⟩ = bs (hdr ++ Code.linesOf l ++ [118] ++ dec (i + 2) ++ [32, 61, 32] ++ Code.nameOf (kop q) ++ Code.ofText (ofq q na nb) ++ [10])) := hide (by
      rw [HOF.out, <- HDB.out, HT6.out]
      simp only [bs2, bs1, bs_append]
      congr 1
      simp [Code.ofText])
     generalize t6 ++ ⟨#[32, 118]⟩ ++ db ++ ⟨#[10]⟩ = t7 at hs7 HT7 ⊢
     obtain ⟨pv', cv', hpv, hcs⟩ := ints_open (l := out) (by rw [hol.out]; exact hown5)
     simp only [Value.slice.injEq] at hpv
     obtain ⟨rfl, -, rfl⟩ := hpv
     obtain ⟨gv, rfl, ca⟩ := hcs na (by rw [hol.out]; exact hA)
     obtain ⟨gv', hgv, cb⟩ := hcs nb (by rw [hol.out]; exact hB)
     cases hgv
     have HVA := hide (hok.out.in32 (out[na]'(by rw [hol.out]; exact hA)) (List.getElem_mem _))
     have HVB := hide (hok.out.in32 (out[nb]'(by rw [hol.out]; exact hB)) (List.getElem_mem _))
     obtain ⟨va, hva⟩ : ∃ va, out[na]'(by rw [hol.out]; exact hA) = va := ⟨_, rfl⟩
     obtain ⟨vb, hvb⟩ : ∃ vb, out[nb]'(by rw [hol.out]; exact hB) = vb := ⟨_, rfl⟩
     rw [hva] at ca HVA
     rw [hvb] at cb HVB
     have HVAe := hide hva
     have HVBe := hide hvb
     clear hva hvb hcs
     obtain ⟨n, hn1, hn2⟩ := kreckon_ok q hq va vb HVA.out.1 HVA.out.2 HVB.out.1 HVB.out.2
     have HN1 := hide hn1
     have HN2 := hide hn2
     clear hn1 hn2
     refine wp_region_held_drew (S := fun _ => True) (by kernel_rfl) trivial (fun hHeld => ?_)
     refine wpAnyH_take (i := 0) (v := .slice (some ⟨gv, 0, none⟩) (i + 2) cv) rfl (by kernel_rfl) (by kernel_rfl) (by kernel_rfl) (fun _ _ _ h => h) (Or.inl ⟨by rfl, fun w' _ => by go_simp⟩) trivial ?_
     try simp only [Act.put, zz]
     refine wpAnyH_take (i := 1) (v := .int .i64 (q : Int)) rfl (by kernel_rfl) (by kernel_rfl) (by kernel_rfl) (fun _ _ _ h => h) (Or.inl ⟨by rfl, fun w' _ => by go_simp⟩) trivial ?_
     try simp only [Act.put, zz]
     refine wpAnyH_take (i := 2) (v := .slice (some ⟨gv, 0, none⟩) (i + 2) cv) rfl (by kernel_rfl) (by kernel_rfl) (by kernel_rfl) (fun _ _ _ h => h) (Or.inl ⟨by rfl, fun w' _ => by go_simp⟩) trivial ?_
     try simp only [Act.put, zz]
     refine wpAnyH_take (i := 3) (v := .int .i64 (na : Int)) rfl (by kernel_rfl) (by kernel_rfl) (by kernel_rfl) (fun _ _ _ h => h) (Or.inl ⟨by rfl, fun w' _ => by go_simp⟩) trivial ?_
     try simp only [Act.put, zz]
     refine wpAnyH_take (i := 4) (v := .pointer (some ⟨gv, na, none⟩)) rfl (by kernel_rfl) (by kernel_rfl) (by kernel_rfl) (fun _ _ _ h => h) (Or.inl ⟨by rfl, fun w' _ => by go_simp⟩) trivial ?_
     try simp only [Act.put, zz]
     refine wpAnyH_take (i := 6) (v := .slice (some ⟨gv, 0, none⟩) (i + 2) cv) rfl (by kernel_rfl) (by kernel_rfl) (by kernel_rfl) (fun _ _ _ h => h) (Or.inl ⟨by rfl, fun w' _ => by go_simp⟩) trivial ?_
     try simp only [Act.put, zz]
     refine wpAnyH_take (i := 7) (v := .int .i64 (nb : Int)) rfl (by kernel_rfl) (by kernel_rfl) (by kernel_rfl) (fun _ _ _ h => h) (Or.inl ⟨by rfl, fun w' _ => by go_simp⟩) trivial ?_
     try simp only [Act.put, zz]
     refine wpAnyH_take (i := 8) (v := .pointer (some ⟨gv, nb, none⟩)) rfl (by kernel_rfl) (by kernel_rfl) (by kernel_rfl) (fun _ _ _ h => h) (Or.inl ⟨by rfl, fun w' _ => by go_simp⟩) trivial ?_
     try simp only [Act.put, zz]
     refine wpAnyH_ready (rs := [5, 9]) (by kernel_rfl) (by simp) ?_
     refine AllReadyH.cons rfl (fun K hK => ?_) (AllReadyH.cons rfl (fun K hK => ?_) AllReadyH.nil)
     case refine_1 =>
      rw [if_pos (by rfl)]
      go_wp2_with fail
      refine hK.out _ _ trivial (fun hHeld => ?_)
      clear hK K
      try simp only [Act.put, zz]
      refine wpAnyH_ready (rs := [9]) (by kernel_rfl) (by simp) ?_
      refine AllReadyH.cons rfl (fun K hK => ?_) AllReadyH.nil
      rw [if_pos (by rfl)]
      go_wp2_with fail
      refine hK.out _ _ trivial (fun hHeld => ?_)
      clear hK K
      try simp only [Act.put, zz]
      refine wpAnyH_ready (rs := [10]) (by kernel_rfl) (by simp) ?_
      refine AllReadyH.cons rfl (fun K hK => ?_) AllReadyH.nil
      rw [if_pos (by rfl)]
      go_wp2_with fail
      refine (HN2.out _).mono ?_
      rintro e w6 ⟨rfl, rfl⟩
      have hown6 := own_below hown5 (Below.refl _ w5).drew
      have hbw6 : Below w.heap.size w w5.drew := hbw5.drew
      generalize w5.drew = w6 at hown6 hbw6 hK ⊢
      clear hown5 hbw5 ca cb
      refine hK.out _ _ trivial (fun hHeld => ?_)
      clear hK K
      try simp only [Act.put, zz]
      refine wpAnyH_ready (rs := [11]) (by kernel_rfl) (by simp) ?_
      refine AllReadyH.cons rfl (fun K hK => ?_) AllReadyH.nil
      rw [if_pos (by rfl)]
      go_wp2_with fail
      refine hK.out _ _ trivial (fun hHeld => ?_)
      clear hK K
      try simp only [Act.put, zz]
      refine wpAnyH_ready (rs := [12]) (by kernel_rfl) (by simp) ?_
      refine AllReadyH.cons rfl (fun K hK => ?_) AllReadyH.nil
      rw [if_pos (by rfl)]
      refine wp_append_lies _ _ _ 31 rfl w.heap.size 3 i0 (.int .i64 0) 1 8 Tryz.underlying31 hi hz0 hz1 hz2 rfl (by decide) _ _ _ rfl (hown6.alloc _) ⟨_, 0, none⟩ 1 1 [.int .i64 n] rfl rfl (cell_one_new _ _ _) (fun x hx => by simp at hx; subst hx; rfl) (by decide) (by unfold maxLen; omega) (by omega) (Nat.le_trans hbw6.size (by simp)) _ rfl ?_
      intro gw cw w7 hown7 hgrow7 _ _
      refine hK.out _ _ trivial (fun hHeld => ?_)
      clear hK K
      try simp only [Act.put, zz]
      refine wpAnyH_ready (rs := [13]) (by kernel_rfl) (by simp) ?_
      refine AllReadyH.cons rfl (fun K hK => ?_) AllReadyH.nil
      rw [if_pos (by rfl)]
      go_wp2_with fail
      refine hK.out _ _ trivial (fun hHeld => ?_)
      clear hK K
      try simp only [Act.put, zz]
      refine wpAnyH_done (by kernel_rfl) ?_ _
      have hbw7 : Below w.heap.size w w7 := (hbw6.alloc hbw6.size _).grown hgrow7 (Nat.le_trans hbw6.size (by simp)) (fun j hj => (hown6.lt j hj).1)
      clear hown6 hbw6 hgrow7
      go_wp2_with fail
      refine ⟨⟨i + 1, l ++ [⟨i + 2, .apply (kop q) (ofq q na nb)⟩], out ++ [n], by omega, by omega, ?_, by go_num, ?_, ?_, hbw7, ?_⟩, by simp [intOf]; omega⟩
      ·rw [line_apply, HT7.out]
      ·rw [ints_snoc]; exact hown7
      ·exact hide (by rw [List.length_append, hol.out]; rfl)
      ·have hc := HN1.out
       rw [<- HVAe.out, <- HVBe.out] at hc
       exact hide (hok.out.snoc ⟨kop_lt hq, ofq_len hq na nb, ofq_lt (by omega) (by omega)⟩ (ofq_lt (by omega) (by omega)) (ofq_comes hq _ out _ _ hc) (reckon_in32 HN1.out HVA.out HVB.out) (ofq_text hq (by omega) (by omega)) (by omega) (kop_div _ _))
     case refine_2 =>
      rw [if_pos (by rfl)]
      go_wp2_with fail
      refine hK.out _ _ trivial (fun hHeld => ?_)
      clear hK K
      try simp only [Act.put, zz]
      refine wpAnyH_ready (rs := [5]) (by kernel_rfl) (by simp) ?_
      refine AllReadyH.cons rfl (fun K hK => ?_) AllReadyH.nil
      rw [if_pos (by rfl)]
      go_wp2_with fail
      refine hK.out _ _ trivial (fun hHeld => ?_)
      clear hK K
      try simp only [Act.put, zz]
      refine wpAnyH_ready (rs := [10]) (by kernel_rfl) (by simp) ?_
      refine AllReadyH.cons rfl (fun K hK => ?_) AllReadyH.nil
      rw [if_pos (by rfl)]
      go_wp2_with fail
      refine (HN2.out _).mono ?_
      rintro e w6 ⟨rfl, rfl⟩
      have hown6 := own_below hown5 (Below.refl _ w5).drew
      have hbw6 : Below w.heap.size w w5.drew := hbw5.drew
      generalize w5.drew = w6 at hown6 hbw6 hK ⊢
      clear hown5 hbw5 ca cb
      refine hK.out _ _ trivial (fun hHeld => ?_)
      clear hK K
      try simp only [Act.put, zz]
      refine wpAnyH_ready (rs := [11]) (by kernel_rfl) (by simp) ?_
      refine AllReadyH.cons rfl (fun K hK => ?_) AllReadyH.nil
      rw [if_pos (by rfl)]
      go_wp2_with fail
      refine hK.out _ _ trivial (fun hHeld => ?_)
      clear hK K
      try simp only [Act.put, zz]
      refine wpAnyH_ready (rs := [12]) (by kernel_rfl) (by simp) ?_
      refine AllReadyH.cons rfl (fun K hK => ?_) AllReadyH.nil
      rw [if_pos (by rfl)]
      refine wp_append_lies _ _ _ 31 rfl w.heap.size 3 i0 (.int .i64 0) 1 8 Tryz.underlying31 hi hz0 hz1 hz2 rfl (by decide) _ _ _ rfl (hown6.alloc _) ⟨_, 0, none⟩ 1 1 [.int .i64 n] rfl rfl (cell_one_new _ _ _) (fun x hx => by simp at hx; subst hx; rfl) (by decide) (by unfold maxLen; omega) (by omega) (Nat.le_trans hbw6.size (by simp)) _ rfl ?_
      intro gw cw w7 hown7 hgrow7 _ _
      refine hK.out _ _ trivial (fun hHeld => ?_)
      clear hK K
      try simp only [Act.put, zz]
      refine wpAnyH_ready (rs := [13]) (by kernel_rfl) (by simp) ?_
      refine AllReadyH.cons rfl (fun K hK => ?_) AllReadyH.nil
      rw [if_pos (by rfl)]
      go_wp2_with fail
      refine hK.out _ _ trivial (fun hHeld => ?_)
      clear hK K
      try simp only [Act.put, zz]
      refine wpAnyH_done (by kernel_rfl) ?_ _
      have hbw7 : Below w.heap.size w w7 := (hbw6.alloc hbw6.size _).grown hgrow7 (Nat.le_trans hbw6.size (by simp)) (fun j hj => (hown6.lt j hj).1)
      clear hown6 hbw6 hgrow7
      go_wp2_with fail
      refine ⟨⟨i + 1, l ++ [⟨i + 2, .apply (kop q) (ofq q na nb)⟩], out ++ [n], by omega, by omega, ?_, by go_num, ?_, ?_, hbw7, ?_⟩, by simp [intOf]; omega⟩
      ·rw [line_apply, HT7.out]
      ·rw [ints_snoc]; exact hown7
      ·exact hide (by rw [List.length_append, hol.out]; rfl)
      ·have hc := HN1.out
       rw [<- HVAe.out, <- HVBe.out] at hc
       exact hide (hok.out.snoc ⟨kop_lt hq, ofq_len hq na nb, ofq_lt (by omega) (by omega)⟩ (ofq_lt (by omega) (by omega)) (ofq_comes hq _ out _ _ hc) (reckon_in32 HN1.out HVA.out HVB.out) (ofq_text hq (by omega) (by omega)) (by omega) (kop_div _ _))
    ·have hq10' : ¬ (q : Int) < 10 := by omega
     have HOF : Hid (ofq q na nb = [na]) := hide (if_neg hq10)
     clear hq10
     go_wp2_with fail
     have hs7 : (t6 ++ ⟨#[10]⟩).size <= 5100 := by
      simp only [ByteArray.size_append', ByteArray.size_mk']
      show t6.size + 1 <= 5100
      omega
     have HT7 : Hid (t6 ++ ⟨#[10]⟩ = bs (hdr ++ Code.linesOf l ++ [118] ++ dec (i + 2) ++ [32, 61, 32] ++ Code.nameOf (kop q) ++ Code.ofText (ofq q na nb) ++ [10])) := hide (by
      rw [HOF.out, HT6.out]
      simp only [bs1, bs_append]
      congr 1
      simp [Code.ofText])
     generalize t6 ++ ⟨#[10]⟩ = t7 at hs7 HT7 ⊢
     have hown5 := hown3
     have hbw5 := hbw
     clear hown3 hbw
     obtain ⟨pv', cv', hpv, hcs⟩ := ints_open (l := out) (by rw [hol.out]; exact hown5)
     simp only [Value.slice.injEq] at hpv
     obtain ⟨rfl, -, rfl⟩ := hpv
     obtain ⟨gv, rfl, ca⟩ := hcs na (by rw [hol.out]; exact hA)
     obtain ⟨gv', hgv, cb⟩ := hcs nb (by rw [hol.out]; exact hB)
     cases hgv
     have HVA := hide (hok.out.in32 (out[na]'(by rw [hol.out]; exact hA)) (List.getElem_mem _))
     have HVB := hide (hok.out.in32 (out[nb]'(by rw [hol.out]; exact hB)) (List.getElem_mem _))
     obtain ⟨va, hva⟩ : ∃ va, out[na]'(by rw [hol.out]; exact hA) = va := ⟨_, rfl⟩
     obtain ⟨vb, hvb⟩ : ∃ vb, out[nb]'(by rw [hol.out]; exact hB) = vb := ⟨_, rfl⟩
     rw [hva] at ca HVA
     rw [hvb] at cb HVB
     have HVAe := hide hva
     have HVBe := hide hvb
     clear hva hvb hcs
     obtain ⟨n, hn1, hn2⟩ := kreckon_ok q hq va vb HVA.out.1 HVA.out.2 HVB.out.1 HVB.out.2
     have HN1 := hide hn1
     have HN2 := hide hn2
     clear hn1 hn2
     refine wp_region_held_drew (S := fun _ => True) (by kernel_rfl) trivial (fun hHeld => ?_)
     refine wpAnyH_take (i := 0) (v := .slice (some ⟨gv, 0, none⟩) (i + 2) cv) rfl (by kernel_rfl) (by kernel_rfl) (by kernel_rfl) (fun _ _ _ h => h) (Or.inl ⟨by rfl, fun w' _ => by go_simp⟩) trivial ?_
     try simp only [Act.put, zz]
     refine wpAnyH_take (i := 1) (v := .int .i64 (q : Int)) rfl (by kernel_rfl) (by kernel_rfl) (by kernel_rfl) (fun _ _ _ h => h) (Or.inl ⟨by rfl, fun w' _ => by go_simp⟩) trivial ?_
     try simp only [Act.put, zz]
     refine wpAnyH_take (i := 2) (v := .slice (some ⟨gv, 0, none⟩) (i + 2) cv) rfl (by kernel_rfl) (by kernel_rfl) (by kernel_rfl) (fun _ _ _ h => h) (Or.inl ⟨by rfl, fun w' _ => by go_simp⟩) trivial ?_
     try simp only [Act.put, zz]
     refine wpAnyH_take (i := 3) (v := .int .i64 (na : Int)) rfl (by kernel_rfl) (by kernel_rfl) (by kernel_rfl) (fun _ _ _ h => h) (Or.inl ⟨by rfl, fun w' _ => by go_simp⟩) trivial ?_
     try simp only [Act.put, zz]
     refine wpAnyH_take (i := 4) (v := .pointer (some ⟨gv, na, none⟩)) rfl (by kernel_rfl) (by kernel_rfl) (by kernel_rfl) (fun _ _ _ h => h) (Or.inl ⟨by rfl, fun w' _ => by go_simp⟩) trivial ?_
     try simp only [Act.put, zz]
     refine wpAnyH_take (i := 6) (v := .slice (some ⟨gv, 0, none⟩) (i + 2) cv) rfl (by kernel_rfl) (by kernel_rfl) (by kernel_rfl) (fun _ _ _ h => h) (Or.inl ⟨by rfl, fun w' _ => by go_simp⟩) trivial ?_
     try simp only [Act.put, zz]
     refine wpAnyH_take (i := 7) (v := .int .i64 (nb : Int)) rfl (by kernel_rfl) (by kernel_rfl) (by kernel_rfl) (fun _ _ _ h => h) (Or.inl ⟨by rfl, fun w' _ => by go_simp⟩) trivial ?_
     try simp only [Act.put, zz]
     refine wpAnyH_take (i := 8) (v := .pointer (some ⟨gv, nb, none⟩)) rfl (by kernel_rfl) (by kernel_rfl) (by kernel_rfl) (fun _ _ _ h => h) (Or.inl ⟨by rfl, fun w' _ => by go_simp⟩) trivial ?_
     try simp only [Act.put, zz]
     refine wpAnyH_ready (rs := [5, 9]) (by kernel_rfl) (by simp) ?_
     refine AllReadyH.cons rfl (fun K hK => ?_) (AllReadyH.cons rfl (fun K hK => ?_) AllReadyH.nil)
     case refine_1 =>
      rw [if_pos (by rfl)]
      go_wp2_with fail
      refine hK.out _ _ trivial (fun hHeld => ?_)
      clear hK K
      try simp only [Act.put, zz]
      refine wpAnyH_ready (rs := [9]) (by kernel_rfl) (by simp) ?_
      refine AllReadyH.cons rfl (fun K hK => ?_) AllReadyH.nil
      rw [if_pos (by rfl)]
      go_wp2_with fail
      refine hK.out _ _ trivial (fun hHeld => ?_)
      clear hK K
      try simp only [Act.put, zz]
      refine wpAnyH_ready (rs := [10]) (by kernel_rfl) (by simp) ?_
      refine AllReadyH.cons rfl (fun K hK => ?_) AllReadyH.nil
      rw [if_pos (by rfl)]
      go_wp2_with fail
      refine (HN2.out _).mono ?_
      rintro e w6 ⟨rfl, rfl⟩
      have hown6 := own_below hown5 (Below.refl _ w3).drew
      have hbw6 : Below w.heap.size w w3.drew := hbw5.drew
      generalize w3.drew = w6 at hown6 hbw6 hK ⊢
      clear hown5 hbw5 ca cb
      refine hK.out _ _ trivial (fun hHeld => ?_)
      clear hK K
      try simp only [Act.put, zz]
      refine wpAnyH_ready (rs := [11]) (by kernel_rfl) (by simp) ?_
      refine AllReadyH.cons rfl (fun K hK => ?_) AllReadyH.nil
      rw [if_pos (by rfl)]
      go_wp2_with fail
      refine hK.out _ _ trivial (fun hHeld => ?_)
      clear hK K
      try simp only [Act.put, zz]
      refine wpAnyH_ready (rs := [12]) (by kernel_rfl) (by simp) ?_
      refine AllReadyH.cons rfl (fun K hK => ?_) AllReadyH.nil
      rw [if_pos (by rfl)]
      refine wp_append_lies _ _ _ 31 rfl w.heap.size 3 i0 (.int .i64 0) 1 8 Tryz.underlying31 hi hz0 hz1 hz2 rfl (by decide) _ _ _ rfl (hown6.alloc _) ⟨_, 0, none⟩ 1 1 [.int .i64 n] rfl rfl (cell_one_new _ _ _) (fun x hx => by simp at hx; subst hx; rfl) (by decide) (by unfold maxLen; omega) (by omega) (Nat.le_trans hbw6.size (by simp)) _ rfl ?_
      intro gw cw w7 hown7 hgrow7 _ _
      refine hK.out _ _ trivial (fun hHeld => ?_)
      clear hK K
      try simp only [Act.put, zz]
      refine wpAnyH_ready (rs := [13]) (by kernel_rfl) (by simp) ?_
      refine AllReadyH.cons rfl (fun K hK => ?_) AllReadyH.nil
      rw [if_pos (by rfl)]
      go_wp2_with fail
      refine hK.out _ _ trivial (fun hHeld => ?_)
      clear hK K
      try simp only [Act.put, zz]
      refine wpAnyH_done (by kernel_rfl) ?_ _
      have hbw7 : Below w.heap.size w w7 := (hbw6.alloc hbw6.size _).grown hgrow7 (Nat.le_trans hbw6.size (by simp)) (fun j hj => (hown6.lt j hj).1)
      clear hown6 hbw6 hgrow7
      go_wp2_with fail
      refine ⟨⟨i + 1, l ++ [⟨i + 2, .apply (kop q) (ofq q na nb)⟩], out ++ [n], by omega, by omega, ?_, by go_num, ?_, ?_, hbw7, ?_⟩, by simp [intOf]; omega⟩
      ·rw [line_apply, HT7.out]
      ·rw [ints_snoc]; exact hown7
      ·exact hide (by rw [List.length_append, hol.out]; rfl)
      ·have hc := HN1.out
       rw [<- HVAe.out, <- HVBe.out] at hc
       exact hide (hok.out.snoc ⟨kop_lt hq, ofq_len hq na nb, ofq_lt (by omega) (by omega)⟩ (ofq_lt (by omega) (by omega)) (ofq_comes hq _ out _ _ hc) (reckon_in32 HN1.out HVA.out HVB.out) (ofq_text hq (by omega) (by omega)) (by omega) (kop_div _ _))
     case refine_2 =>
      rw [if_pos (by rfl)]
      go_wp2_with fail
      refine hK.out _ _ trivial (fun hHeld => ?_)
      clear hK K
      try simp only [Act.put, zz]
      refine wpAnyH_ready (rs := [5]) (by kernel_rfl) (by simp) ?_
      refine AllReadyH.cons rfl (fun K hK => ?_) AllReadyH.nil
      rw [if_pos (by rfl)]
      go_wp2_with fail
      refine hK.out _ _ trivial (fun hHeld => ?_)
      clear hK K
      try simp only [Act.put, zz]
      refine wpAnyH_ready (rs := [10]) (by kernel_rfl) (by simp) ?_
      refine AllReadyH.cons rfl (fun K hK => ?_) AllReadyH.nil
      rw [if_pos (by rfl)]
      go_wp2_with fail
      refine (HN2.out _).mono ?_
      rintro e w6 ⟨rfl, rfl⟩
      have hown6 := own_below hown5 (Below.refl _ w3).drew
      have hbw6 : Below w.heap.size w w3.drew := hbw5.drew
      generalize w3.drew = w6 at hown6 hbw6 hK ⊢
      clear hown5 hbw5 ca cb
      refine hK.out _ _ trivial (fun hHeld => ?_)
      clear hK K
      try simp only [Act.put, zz]
      refine wpAnyH_ready (rs := [11]) (by kernel_rfl) (by simp) ?_
      refine AllReadyH.cons rfl (fun K hK => ?_) AllReadyH.nil
      rw [if_pos (by rfl)]
      go_wp2_with fail
      refine hK.out _ _ trivial (fun hHeld => ?_)
      clear hK K
      try simp only [Act.put, zz]
      refine wpAnyH_ready (rs := [12]) (by kernel_rfl) (by simp) ?_
      refine AllReadyH.cons rfl (fun K hK => ?_) AllReadyH.nil
      rw [if_pos (by rfl)]
      refine wp_append_lies _ _ _ 31 rfl w.heap.size 3 i0 (.int .i64 0) 1 8 Tryz.underlying31 hi hz0 hz1 hz2 rfl (by decide) _ _ _ rfl (hown6.alloc _) ⟨_, 0, none⟩ 1 1 [.int .i64 n] rfl rfl (cell_one_new _ _ _) (fun x hx => by simp at hx; subst hx; rfl) (by decide) (by unfold maxLen; omega) (by omega) (Nat.le_trans hbw6.size (by simp)) _ rfl ?_
      intro gw cw w7 hown7 hgrow7 _ _
      refine hK.out _ _ trivial (fun hHeld => ?_)
      clear hK K
      try simp only [Act.put, zz]
      refine wpAnyH_ready (rs := [13]) (by kernel_rfl) (by simp) ?_
      refine AllReadyH.cons rfl (fun K hK => ?_) AllReadyH.nil
      rw [if_pos (by rfl)]
      go_wp2_with fail
      refine hK.out _ _ trivial (fun hHeld => ?_)
      clear hK K
      try simp only [Act.put, zz]
      refine wpAnyH_done (by kernel_rfl) ?_ _
      have hbw7 : Below w.heap.size w w7 := (hbw6.alloc hbw6.size _).grown hgrow7 (Nat.le_trans hbw6.size (by simp)) (fun j hj => (hown6.lt j hj).1)
      clear hown6 hbw6 hgrow7
      go_wp2_with fail
      refine ⟨⟨i + 1, l ++ [⟨i + 2, .apply (kop q) (ofq q na nb)⟩], out ++ [n], by omega, by omega, ?_, by go_num, ?_, ?_, hbw7, ?_⟩, by simp [intOf]; omega⟩
      ·rw [line_apply, HT7.out]
      ·rw [ints_snoc]; exact hown7
      ·exact hide (by rw [List.length_append, hol.out]; rfl)
      ·have hc := HN1.out
       rw [<- HVAe.out, <- HVBe.out] at hc
       exact hide (hok.out.snoc ⟨kop_lt hq, ofq_len hq na nb, ofq_lt (by omega) (by omega)⟩ (ofq_lt (by omega) (by omega)) (ofq_comes hq _ out _ _ hc) (reckon_in32 HN1.out HVA.out HVB.out) (ofq_text hq (by omega) (by omega)) (by omega) (kop_div _ _))
  ·have hstop : ¬ ((i : Int) < acts.length /\ (i : Int) < 40) := by omega
   have himin : i = min acts.length 40 := by omega
   have HMIN := hide himin
   clear himin hgo
   by_cases hs1 : (i : Int) < acts.length
   ·have hs2 : ¬ (i : Int) < 40 := fun h => hstop ⟨hs1, h⟩
    go_wp2_with fail
    obtain ⟨pv', cv', hpv, hcs⟩ := ints_open (l := out) (by rw [hol.out]; exact hown)
    simp only [Value.slice.injEq] at hpv
    obtain ⟨rfl, -, rfl⟩ := hpv
    obtain ⟨gv, rfl, cn⟩ := hcs (i + 1) (by rw [hol.out]; omega)
    obtain ⟨vn, hvn⟩ : ∃ vn, out[i + 1]'(by rw [hol.out]; omega) = vn := ⟨_, rfl⟩
    rw [hvn] at cn
    have HVN := hide hvn
    clear hvn hcs
    have hgv := World.block_lt_of_cell? wr _ cn
    have HC : Hid (∀ w', Below wr.heap.size wr w' -> w'.cell? ⟨gv, i + 1, none⟩ = some (.int .i64 vn)) := hide fun w' hb => ((bcell hb).1 gv _ hgv).trans cn
    obtain ⟨dn, HDN, hdn⟩ : ∃ dn, Hid (bs (dec (i + 1)) = dn) /\ dn.size <= 2 := ⟨_, hide rfl, by rw [bs_size]; exact Code.dec_len _ 2 (by omega) (by omega)⟩
    have HD1 : Hid (∀ w', Calls Tryz.prog 26 #[.int .i64 ((i : Int) + 1)] w' fun e w'' => e = .returned (.string dn) /\ Below w'.heap.size w' w'') := hide fun w' => by
     rw [<- HDN.out]; exact kdigits_nat (i + 1) w' (by omega)
    simp only [show (i : Int) + 2 - 1 = (i : Int) + 1 by omega]
    have f1 : ¬ 9223372036854775807 < t.size + 5 := by omega
    have f2 : ¬ 9223372036854775807 < t.size + 5 + dn.size := by omega
    have f3 : ¬ 9223372036854775807 < t.size + 5 + dn.size + 1 := by omega
    have g1 : (0 : Int) <= (i : Int) + 1 := by omega
    have g2 : (i : Int) + 1 < (i : Int) + 2 := by omega
    clear hown hgv
    go_region_held3 (fun w' => Below wr.heap.size wr w' /\ w'.cell? ⟨gv, i + 1, none⟩ = some (.int .i64 vn)) (first | assumption | (go_split_ands; (try dsimp only); refine ⟨?_, HC.out _ ?_⟩ <;> (repeat' (first | assumption | exact Below.refl _ _ | apply Below.drew)))) (first | (go_at_call 26; refine (HD1.out _).mono ?_; rintro e w2 ⟨rfl, hb2⟩; have hb2' : Below wr.heap.size wr w2 := undrewB hb2))
    have HTX : Hid (t ++ ⟨#[114, 101, 116, 32, 118]⟩ ++ dn ++ ⟨#[10]⟩ = bs (madeText l)) := hide (by rw [madeText_is l (i + 1) (by rw [hok.out.len]), HT.out, HDN.out])
    have HVX : Hid (out.getD (l.length - 1) 0 = vn) := hide (by rw [hok.out.len, show i + 2 - 1 = i + 1 by omega, List.getD_eq_getElem?_getD, List.getElem?_eq_getElem (by rw [hol.out]; omega), <- HVN.out]; rfl)
    generalize t ++ ⟨#[114, 101, 116, 32, 118]⟩ ++ dn ++ ⟨#[10]⟩ = tx at HTX ⊢
    go_wp2_with fail
    go_ret2
    exact ⟨l, out, by rw [HVX.out, <- HTX.out]; rfl, by rw [<- HMIN.out]; exact hok.out, hbel.trans (hb2'.mono hbel.size)⟩
   ·clear hstop
    go_wp2_with fail
    obtain ⟨pv', cv', hpv, hcs⟩ := ints_open (l := out) (by rw [hol.out]; exact hown)
    simp only [Value.slice.injEq] at hpv
    obtain ⟨rfl, -, rfl⟩ := hpv
    obtain ⟨gv, rfl, cn⟩ := hcs (i + 1) (by rw [hol.out]; omega)
    obtain ⟨vn, hvn⟩ : ∃ vn, out[i + 1]'(by rw [hol.out]; omega) = vn := ⟨_, rfl⟩
    rw [hvn] at cn
    have HVN := hide hvn
    clear hvn hcs
    have hgv := World.block_lt_of_cell? wr _ cn
    have HC : Hid (∀ w', Below wr.heap.size wr w' -> w'.cell? ⟨gv, i + 1, none⟩ = some (.int .i64 vn)) := hide fun w' hb => ((bcell hb).1 gv _ hgv).trans cn
    obtain ⟨dn, HDN, hdn⟩ : ∃ dn, Hid (bs (dec (i + 1)) = dn) /\ dn.size <= 2 := ⟨_, hide rfl, by rw [bs_size]; exact Code.dec_len _ 2 (by omega) (by omega)⟩
    have HD1 : Hid (∀ w', Calls Tryz.prog 26 #[.int .i64 ((i : Int) + 1)] w' fun e w'' => e = .returned (.string dn) /\ Below w'.heap.size w' w'') := hide fun w' => by
     rw [<- HDN.out]; exact kdigits_nat (i + 1) w' (by omega)
    simp only [show (i : Int) + 2 - 1 = (i : Int) + 1 by omega]
    have f1 : ¬ 9223372036854775807 < t.size + 5 := by omega
    have f2 : ¬ 9223372036854775807 < t.size + 5 + dn.size := by omega
    have f3 : ¬ 9223372036854775807 < t.size + 5 + dn.size + 1 := by omega
    have g1 : (0 : Int) <= (i : Int) + 1 := by omega
    have g2 : (i : Int) + 1 < (i : Int) + 2 := by omega
    clear hown hgv
    go_region_held3 (fun w' => Below wr.heap.size wr w' /\ w'.cell? ⟨gv, i + 1, none⟩ = some (.int .i64 vn)) (first | assumption | (go_split_ands; (try dsimp only); refine ⟨?_, HC.out _ ?_⟩ <;> (repeat' (first | assumption | exact Below.refl _ _ | apply Below.drew)))) (first | (go_at_call 26; refine (HD1.out _).mono ?_; rintro e w2 ⟨rfl, hb2⟩; have hb2' : Below wr.heap.size wr w2 := undrewB hb2))
    have HTX : Hid (t ++ ⟨#[114, 101, 116, 32, 118]⟩ ++ dn ++ ⟨#[10]⟩ = bs (madeText l)) := hide (by rw [madeText_is l (i + 1) (by rw [hok.out.len]), HT.out, HDN.out])
    have HVX : Hid (out.getD (l.length - 1) 0 = vn) := hide (by rw [hok.out.len, show i + 2 - 1 = i + 1 by omega, List.getD_eq_getElem?_getD, List.getElem?_eq_getElem (by rw [hol.out]; omega), <- HVN.out]; rfl)
    generalize t ++ ⟨#[114, 101, 116, 32, 118]⟩ ++ dn ++ ⟨#[10]⟩ = tx at HTX ⊢
    go_wp2_with fail
    go_ret2
    exact ⟨l, out, by rw [HVX.out, <- HTX.out]; rfl, by rw [<- HMIN.out]; exact hok.out, hbel.trans (hb2'.mono hbel.size)⟩
theorem ActsAt.below {w w' : World} {p : Option Addr} {acts : List (Int × Int × Int)} (h : ActsAt w p acts) (hb : Below w.heap.size w w') : ActsAt w' p acts := fun i hi => by
 obtain ⟨g, o, e, hg, c0, c1, c2⟩ := h i hi
 exact ⟨g, o, e, Nat.lt_of_lt_of_le hg hb.size, ((bcell hb).1 g _ hg).trans c0, ((bcell hb).1 g _ hg).trans c1, ((bcell hb).1 g _ hg).trans c2⟩
theorem MadeOk.size {x y : Int} {l : List Code.Val} {out : List Int} {m : Nat} (h : MadeOk x y l out m) (hm : m <= 40) : (madeText l).length <= 1100 := by
 have h1 := h.text
 have h2 := Code.dec_len (l.length - 1) 2 (by omega) (by have := h.len; omega)
 have e : (madeText l).length = (hdr ++ Code.linesOf l).length + 5 + (dec (l.length - 1)).length + 1 := by
  simp [madeText, Code.oneBlock, hdr]
  omega
 omega
def SdRuns (x y : Int) (tx : ByteArray) (res er : Int) : Prop := ∀ (av : Value) (w : World), Tab w -> w.ownsRow 0 3 1 av 2 (ints [x, y]) -> Calls Tryz.prog 25 #[.string tx, av, .int .i64 100000] w fun e w' => (∃ n : Int, e = .returned (.tuple #[.int .i64 res, .int .i64 n, .int .i64 er])) /\ Below w.heap.size w w'
theorem sdGoes {x y : Int} {t d : Bool} {σ : Nat -> Int} {vs : List Code.Val} {r : Nat} (h : Code.Ok1 2 [x, y] t d σ vs r) (hl : (Code.wrF 2 [⟨vs, .ret r⟩]).length <= 1500) (hx : -2147483648 <= x /\ x < 2147483648) (hy : -2147483648 <= y /\ y < 2147483648) (picks : List Int) (pv : Value) (w : World) (hp : PicksAt w pv picks) (hin : ∀ p ∈ picks, -9223372036854775808 <= p /\ p <= 9223372036854775807) (hi : TabI w) (ht : Tab w) :
  Calls Tryz.prog 16 #[.string (bs Code.stdText), .string (bs (Code.wrF 2 [⟨vs, .ret r⟩])), pv] w fun e w' => (∃ tx m er, e = .returned (.tuple #[.string tx, .int .i64 m, .int .i64 er]) /\ (er = 0 \/ er = 9) /\ SdRuns x y tx (if t then 0 else σ r) (if t then 4 else 0)) /\ Below w.heap.size w w' := by
 refine (sdRewrite (A := [x, y]) h (by show 2 < 5; omega) hl picks pv w hp hin hi ht ht.pos).mono ?_
 rintro e w' ⟨⟨vs', r', σ', m, er, rfl, h1, h2, h3, h4, _⟩, hb⟩
 refine ⟨⟨_, _, er, rfl, h4, fun av w1 ht1 hav => ?_⟩, hb⟩
 refine (sdRun (A := [x, y]) (fu := 100000) h1 (by show 2 < 5; omega) h3 (fun z hz => ?_) (by omega) (by omega) av w1 ht1 hav).mono ?_
 ·simp at hz
  rcases hz with rfl | rfl
  ·exact hx
  ·exact hy
 ·rintro e w2 ⟨⟨n, _, rfl⟩, hb2⟩
  rw [h2]
  exact ⟨⟨_, rfl⟩, hb2⟩
theorem sound_any (acts : List (Int × Int × Int)) (picks : List Int) (p : Option Addr) (cap : Nat) (pv : Value) (a b : Int) (w : World) (hi : TabI w) (ht : Tab w) (ha : ActsAt w p acts) (hin : ∀ a ∈ acts, In64 a.1 /\ In64 a.2.1 /\ In64 a.2.2) (hal : acts.length <= 9223372036854775807) (hp : PicksAt w pv picks) (hpi : ∀ p ∈ picks, -9223372036854775808 <= p /\ p <= 9223372036854775807) :
  Calls Tryz.prog 7 #[.slice p acts.length cap, pv, .int .i64 a, .int .i64 b] w fun e w' => e = .returned (.bool true) /\ Below w.heap.size w w' := by
 have HT := hide ht
 have HI := hide hi
 have HA := hide ha
 have HIN := hide hin
 have HP := hide hp
 have HPI := hide hpi
 obtain ⟨pp, pc, rfl, _⟩ := hp
 clear ht hi ha hin hpi
 go_enter Tryz.func7, Tryz.ntmps7
 go_wp2_with fail
 refine (keepRules_any w HI.out HT.out).mono ?_
 rintro e w1 ⟨rfl, hb1⟩
 go_wp2_with fail
 refine (long_any a w1).mono ?_
 rintro e w1 ⟨rfl, rfl⟩
 go_wp2_with fail
 refine (long_any b w1).mono ?_
 rintro e w1 ⟨rfl, rfl⟩
 have HX := hide (w32_in32 a)
 have HY := hide (w32_in32 b)
 generalize wrap32 a = x at *
 generalize wrap32 b = y at *
 go_wp2_with fail
 refine (made_any acts p cap x y w1 (HA.out.below hb1) HIN.out HX.out HY.out hal).mono ?_
 rintro e w2 ⟨l, out, rfl, hok, h2⟩
 have hb2 : Below w.heap.size w w2 := hb1.trans (h2.mono hb1.size)
 clear hb1 h2
 have hm : min acts.length 40 <= 40 := Nat.min_le_right _ _
 have hlen := hok.len
 obtain ⟨q, hq⟩ : ∃ q, q = min acts.length 40 + 1 := ⟨_, rfl⟩
 have hlq : l.length - 1 = q := by omega
 have hq42 : q < 42 := by omega
 obtain ⟨et1, et2⟩ := made_text hok hm
 have et3 := div_text hok hm HX.out
 have hsz := hok.size hm
 have hdl := Code.dec_len q 2 (by omega) (by omega)
 rw [hlq] at et1 et2 et3
 have HG1 : Hid (∀ w3, Below w.heap.size w w3 -> Calls Tryz.prog 16 #[.string (bs Code.stdText), .string (bs (madeText l)), .slice pp picks.length pc] w3 fun e w' => (∃ tx m er, e = .returned (.tuple #[.string tx, .int .i64 m, .int .i64 er]) /\ (er = 0 \/ er = 9) /\ SdRuns x y tx (out.getD (l.length - 1) 0) 0) /\ Below w3.heap.size w3 w') := hide fun w3 h3 => by
  have h := sdGoes (hok.ok1 hm) (by rw [hlq, et1]; omega) HX.out HY.out picks _ w3 (HP.out.below h3) HPI.out (HI.out.below h3) (HT.out.below h3)
  rw [hlq, et1] at h
  rw [hlq]
  exact h
 have HG2 : Hid (∀ w3, Below w.heap.size w w3 -> Calls Tryz.prog 16 #[.string (bs Code.stdText), .string (bs (Code.wrF 2 [⟨divL l, .ret 0⟩])), .slice pp picks.length pc] w3 fun e w' => (∃ tx m er, e = .returned (.tuple #[.string tx, .int .i64 m, .int .i64 er]) /\ (er = 0 \/ er = 9) /\ SdRuns x y tx (if decide (out.getD (l.length - 1) 0 = 0) then 0 else x) (if decide (out.getD (l.length - 1) 0 = 0) then 4 else 0)) /\ Below w3.heap.size w3 w') := hide fun w3 h3 => by
  obtain ⟨τ, o1, o2⟩ := hok.div hm HX.out
  have h := sdGoes o1 (by rw [et3]; rw [et2] at hsz; simp only [List.length_append, List.length_cons, List.length_nil] at hsz ⊢; omega) HX.out HY.out picks _ w3 (HP.out.below h3) HPI.out (HI.out.below h3) (HT.out.below h3)
  rw [o2] at h
  exact h
 rw [et3] at HG2
 have hhd : (hdr ++ Code.linesOf l).length <= 1100 := by rw [et2] at hsz; simp only [List.length_append] at hsz ⊢; omega
 rw [<- bs_size] at hsz hdl hhd
 have HST : Hid (∀ w3, Calls Tryz.prog 18 #[] w3 fun e w' => e = .returned (.string (bs Code.stdText)) /\ w' = w3) := hide standard_any
 have HTB : Hid (bs (madeText l) = bs (hdr ++ Code.linesOf l) ++ (⟨#[114, 101, 116, 32, 118]⟩ ++ bs (dec q) ++ ⟨#[10]⟩)) := hide (by
  rw [et2, show (⟨#[114, 101, 116, 32, 118]⟩ : ByteArray) = bs [114, 101, 116, 32, 118] from rfl, bs1]
  simp only [bs_append])
 have HDB : Hid (bs (hdr ++ Code.linesOf l ++ [118, 53, 56, 32, 61, 32, 100, 105, 118, 32, 118, 48, 32, 118] ++ dec q ++ [10, 114, 101, 116, 32, 118, 48, 10]) = bs (hdr ++ Code.linesOf l) ++ ⟨#[118, 53, 56, 32, 61, 32, 100, 105, 118, 32, 118, 48, 32, 118]⟩ ++ bs (dec q) ++ ⟨#[10, 114, 101, 116, 32, 118, 48, 10]⟩) := hide (by
  rw [<- bs_append, <- bs_append, <- bs_append]; rfl)
 have HDG : Hid (∀ w3, Calls Tryz.prog 26 #[.int .i64 (q : Nat)] w3 fun e w' => e = .returned (.string (bs (dec q))) /\ Below w3.heap.size w3 w') := hide fun w3 => kdigits_nat q w3 (by omega)
 rw [HDB.out] at HG2
 generalize bs Code.stdText = sb at *
 generalize bs (madeText l) = tb at *
 generalize bs (hdr ++ Code.linesOf l) = hb at *
 generalize bs (dec q) = dn at *
 generalize out.getD (l.length - 1) 0 = want at *
 clear HDB hok et1 et2 et3 hm hlen hlq
 go_wp2_with fail
 refine (HST.out w2).mono ?_
 rintro e w2 ⟨rfl, rfl⟩
 go_wp2_with fail
 refine (HG1.out w2 hb2).mono ?_
 rintro e w3 ⟨⟨tx, m, er, rfl, her, hrun⟩, h3⟩
 have hb3 : Below w.heap.size w w3 := hb2.trans (h3.mono hb2.size)
 have HRUN := hide hrun
 clear h3 hb2 hrun
 have hq0 : (q : Int) = (min acts.length 40 : Nat) + 1 := by omega
 have hdp : 5 + dn.size + 1 <= tb.size := by
  rw [HTB.out]
  simp only [ByteArray.size_append', ByteArray.size_mk']
  show 5 + dn.size + 1 <= hb.size + (5 + dn.size + 1)
  omega
 rcases her with rfl | rfl
 all_goals
  go_wp2_with fail
  have hb4 : Below w.heap.size w (w3.alloc (.cells #[.int .i64 x, .int .i64 y] 3)) := below_al hb3 _
  refine (HRUN.out _ _ (HT.out.below hb4) (own_ints2 w3 x y rfl (Nat.zero_le _))).mono ?_
  rintro e w5 ⟨⟨n, rfl⟩, h5⟩
  have hb5 : Below w.heap.size w w5 := hb4.trans (h5.mono hb4.size)
  clear h5 hb4 hb3 HRUN
  have HQ : Hid (min (acts.length : Int) 40 + 1 = (q : Nat)) := hide (by omega)
  clear hq0 hq
  go_wp2_with fail
  simp only [HQ.out]
  refine wp_region_held_drew (S := fun w' => Below w5.heap.size w5 w') (by kernel_rfl) (Below.refl _ _).drew (fun hHeld => ?_)
  have hb6 : Below w5.heap.size w5 w5.drew := hHeld
  generalize w5.drew = w6 at hb6 hHeld ⊢
  refine wpAnyH_take (i := 0) (v := .string tb) rfl (by kernel_rfl) (by kernel_rfl) (by kernel_rfl) (fun _ _ _ h => h) (Or.inl ⟨by rfl, fun w' h => by  go_simp⟩) hHeld ?_
  try simp only [Act.put, zz]
  refine wpAnyH_take (i := 1) (v := .string tb) rfl (by kernel_rfl) (by kernel_rfl) (by kernel_rfl) (fun _ _ _ h => h) (Or.inl ⟨by rfl, fun w' h => by  go_simp⟩) hHeld ?_
  try simp only [Act.put, zz]
  refine wpAnyH_take (i := 2) (v := .int .i64 (tb.size : Nat)) rfl (by kernel_rfl) (by kernel_rfl) (by kernel_rfl) (fun _ _ _ h => h) (Or.inl ⟨by rfl, fun w' h => by  go_simp⟩) hHeld ?_
  try simp only [Act.put, zz]
  refine wpAnyH_take (i := 3) (v := .int .i64 (q : Nat)) rfl (by kernel_rfl) (by kernel_rfl) (by kernel_rfl) (fun _ _ _ h => h) (Or.inl ⟨by rfl, fun w' h => by  go_simp⟩) hHeld ?_
  try simp only [Act.put, zz]
  refine wpAnyH_take (i := 11) (v := .int .i64 (q : Nat)) rfl (by kernel_rfl) (by kernel_rfl) (by kernel_rfl) (fun _ _ _ h => h) (Or.inl ⟨by rfl, fun w' h => by  go_simp⟩) hHeld ?_
  try simp only [Act.put, zz]
  refine wpAnyH_ready (rs := [4]) (by kernel_rfl) (by simp) ?_
  refine AllReadyH.cons rfl (fun K hK => ?_) AllReadyH.nil
  rw [if_pos (by rfl)]
  go_wp2_with fail
  refine (HDG.out _).mono ?_
  rintro e w7 ⟨rfl, h7⟩
  have hb7 : Below w5.heap.size w5 w7 := hb6.trans (h7.mono hb6.size)
  clear h7 hHeld hb6
  refine hK.out _ _ hb7 (fun hHeld => ?_)
  clear hK K
  try simp only [Act.put, zz]
  have s1 : 5 + dn.size <= 9223372036854775807 := by omega
  have s2 : 5 + dn.size + 1 <= 9223372036854775807 := by omega
  refine wpAnyH_take (i := 5) (v := .string (⟨#[114, 101, 116, 32, 118]⟩ ++ dn)) rfl (by kernel_rfl) (by kernel_rfl) (by kernel_rfl) (fun _ _ _ h => h) (Or.inl ⟨by rfl, fun w' h => by  go_simp⟩) hb7 ?_
  try simp only [Act.put, zz]
  refine wpAnyH_take (i := 6) (v := .string (⟨#[114, 101, 116, 32, 118]⟩ ++ dn ++ ⟨#[10]⟩)) rfl (by kernel_rfl) (by kernel_rfl) (by kernel_rfl) (fun _ _ _ h => h) (Or.inl ⟨by rfl, fun w' h => by  go_simp⟩) hb7 ?_
  try simp only [Act.put, zz]
  generalize (⟨#[114, 101, 116, 32, 118]⟩ ++ dn ++ ⟨#[10]⟩ : ByteArray) = tl at HTB ⊢
  have t1 : tb.size = hb.size + tl.size := by rw [HTB.out, ByteArray.size_append']
  have t2 : (tb.size : Int) - (tl.size : Int) = (hb.size : Int) := by omega
  have t3 : tb.extract 0 hb.size = hb := by rw [HTB.out]; exact ByteArray.extract_append_eq_left rfl
  have t4 : hb.size <= tb.size := by omega
  have t5 : IntKind.i64.wrap (hb.size : Int) = hb.size := by rw [IntKind.wrap_i64]; omega
  clear hdp t1
  refine wpAnyH_take (i := 7) (v := .int .i64 (tl.size : Nat)) rfl (by kernel_rfl) (by kernel_rfl) (by kernel_rfl) (fun _ _ _ h => h) (Or.inl ⟨by rfl, fun w' h => by  go_simp⟩) hb7 ?_
  try simp only [Act.put, zz]
  refine wpAnyH_take (i := 8) (v := .int .i64 (hb.size : Nat)) rfl (by kernel_rfl) (by kernel_rfl) (by kernel_rfl) (fun _ _ _ h => h) (Or.inl ⟨by rfl, fun w' h => by  go_simp⟩) hb7 ?_
  try simp only [Act.put, zz]
  refine wpAnyH_take (i := 9) (v := .string hb) rfl (by kernel_rfl) (by kernel_rfl) (by kernel_rfl) (fun _ _ _ h => h) (Or.inl ⟨by rfl, fun w' h => by  go_simp⟩) hb7 ?_
  try simp only [Act.put, zz]
  have s3 : hb.size + 14 <= 9223372036854775807 := by omega
  have s4 : hb.size + 14 + dn.size <= 9223372036854775807 := by omega
  have s5 : hb.size + 14 + dn.size + 8 <= 9223372036854775807 := by omega
  refine wpAnyH_take (i := 10) (v := .string (hb ++ ⟨#[118, 53, 56, 32, 61, 32, 100, 105, 118, 32, 118, 48, 32, 118]⟩)) rfl (by kernel_rfl) (by kernel_rfl) (by kernel_rfl) (fun _ _ _ h => h) (Or.inl ⟨by rfl, fun w' h => by  go_simp⟩) hb7 ?_
  try simp only [Act.put, zz]
  refine wpAnyH_ready (rs := [12]) (by kernel_rfl) (by simp) ?_
  refine AllReadyH.cons rfl (fun K hK => ?_) AllReadyH.nil
  rw [if_pos (by rfl)]
  go_wp2_with fail
  refine (HDG.out _).mono ?_
  rintro e w8 ⟨rfl, h8⟩
  have hb8 : Below w5.heap.size w5 w8 := hb7.trans (h8.mono hb7.size)
  clear h8 hHeld hb7
  refine hK.out _ _ hb8 (fun hHeld => ?_)
  clear hK K
  try simp only [Act.put, zz]
  refine wpAnyH_take (i := 13) (v := .string (hb ++ ⟨#[118, 53, 56, 32, 61, 32, 100, 105, 118, 32, 118, 48, 32, 118]⟩ ++ dn)) rfl (by kernel_rfl) (by kernel_rfl) (by kernel_rfl) (fun _ _ _ h => h) (Or.inl ⟨by rfl, fun w' h => by  go_simp⟩) hb8 ?_
  try simp only [Act.put, zz]
  refine wpAnyH_take (i := 14) (v := .string (hb ++ ⟨#[118, 53, 56, 32, 61, 32, 100, 105, 118, 32, 118, 48, 32, 118]⟩ ++ dn ++ ⟨#[10, 114, 101, 116, 32, 118, 48, 10]⟩)) rfl (by kernel_rfl) (by kernel_rfl) (by kernel_rfl) (fun _ _ _ h => h) (Or.inl ⟨by rfl, fun w' h => by  go_simp⟩) hb8 ?_
  try simp only [Act.put, zz]
  have hds : (hb ++ ⟨#[118, 53, 56, 32, 61, 32, 100, 105, 118, 32, 118, 48, 32, 118]⟩ ++ dn ++ ⟨#[10, 114, 101, 116, 32, 118, 48, 10]⟩).size <= 1500 := by
   simp only [ByteArray.size_append', ByteArray.size_mk']
   show hb.size + 14 + dn.size + 8 <= 1500
   omega
  generalize hb ++ ⟨#[118, 53, 56, 32, 61, 32, 100, 105, 118, 32, 118, 48, 32, 118]⟩ ++ dn ++ ⟨#[10, 114, 101, 116, 32, 118, 48, 10]⟩ = db at hds HG2 ⊢
  refine wpAnyH_ready (rs := [15]) (by kernel_rfl) (by simp) ?_
  refine AllReadyH.cons rfl (fun K hK => ?_) AllReadyH.nil
  rw [if_pos (by rfl)]
  go_wp2_with fail
  refine hK.out _ _ hb8 (fun hHeld => ?_)
  clear hK K
  try simp only [Act.put, zz]
  refine wpAnyH_done (by kernel_rfl) ?_ _
  have hb9 : Below w.heap.size w w8 := hb5.trans (hb8.mono hb5.size)
  clear hHeld hb8 hb5 t2 t3 t4 t5 s1 s2 s3 s4 s5 HTB HDG HG1 HST
  go_wp2_with fail
  refine (HG2.out w8 hb9).mono ?_
  rintro e w10 ⟨⟨tx2, m2, er2, rfl, her2, hrun2⟩, h10⟩
  have hb10 : Below w.heap.size w w10 := hb9.trans (h10.mono hb9.size)
  clear h10 hb9 HG2
  by_cases hw0 : want = 0
  ·rw [decide_eq_true hw0, if_pos rfl, if_pos rfl] at hrun2
   subst hw0
   have HRUN2 := hide hrun2
   clear hrun2
   rcases her2 with rfl | rfl
   all_goals
    go_wp2_with fail
    have hb11 : Below w.heap.size w (w10.alloc (.cells #[.int .i64 x, .int .i64 y] 3)) := below_al hb10 _
    refine (HRUN2.out _ _ (HT.out.below hb11) (own_ints2 w10 x y rfl (Nat.zero_le _))).mono ?_
    rintro e w12 ⟨⟨n2, rfl⟩, h12⟩
    have hb12 : Below w.heap.size w w12 := hb11.trans (h12.mono hb11.size)
    go_wp2_with fail
    go_ret
    exact ⟨rfl, hb12⟩
  ·rw [decide_eq_false hw0, if_neg (by simp), if_neg (by simp)] at hrun2
   have HRUN2 := hide hrun2
   clear hrun2
   rcases her2 with rfl | rfl
   all_goals
    go_wp2_with fail
    have hb11 : Below w.heap.size w (w10.alloc (.cells #[.int .i64 x, .int .i64 y] 3)) := below_al hb10 _
    refine (HRUN2.out _ _ (HT.out.below hb11) (own_ints2 w10 x y rfl (Nat.zero_le _))).mono ?_
    rintro e w12 ⟨⟨n2, rfl⟩, h12⟩
    have hb12 : Below w.heap.size w w12 := hb11.trans (h12.mono hb11.size)
    go_wp2_with fail
    go_ret
    exact ⟨rfl, hb12⟩
end Go.Proofs.YtedkjanogjglkaaGreatDoor
