/-
  Parts of the proof: RefWalkT2, RefWalkT3.
-/
import Derived.Test.YtedkjanogjglkaaGreatDoorP26
import Derived.Test.YtedkjanogjglkaaGreatDoorP01
import Derived.Deep.RegionHeld3
namespace Go.Proofs.YtedkjanogjglkaaGreatDoor.D
open Go.RowKit
open Go.Proofs.YtedkjanogjglkaaGreatDoor.Code (RTree Nm)
theorem weight_name (k : Nat) (h : k < 13) : Ref.weight (Code.nameOf k) = Code.opW k := by
 match k, h with
 | 0, _ | 1, _ | 2, _ | 3, _ | 4, _ | 5, _ | 6, _ | 7, _ | 8, _ | 9, _ | 10, _ | 11, _ | 12, _ => rfl
def HeavyC (t : RTree) : Prop := ∀ (I : Nat → Prop) (v : Value) (w : World), RepD w I v t → t.heavy ≤ 100000 →
 Calls Tryz.prog 68 #[v] w fun e w' => e = .returned (.int .i64 t.heavy) ∧ Below w.heap.size w w'
def leafHeavy (kd : Nat) : Int := if kd = 110 then 0 else 1
set_option maxRecDepth 100000 in
set_option maxHeartbeats 4000000 in
theorem heavy_leaf (kd : Nat) (x : ByteArray) (c : Int) (kv : Value) (b : Nat) (w : World) (hx : w.heap[b]? = some (.cells #[.int .u8 (kd : Nat), .string x, .int .i64 c, kv] 135)) (h : kd = 110 ∨ kd = 35 ∨ kd = 100 ∨ kd = 33) :
  Calls Tryz.prog 68 #[.pointer (some ⟨b, 0, none⟩)] w fun e w' => e = .returned (.int .i64 (leafHeavy kd)) ∧ Below w.heap.size w w' := by
 have c0 := blk_cell hx 0 _ rfl
 rcases h with rfl | rfl | rfl | rfl
 all_goals
  go_enter Tryz.func68, Tryz.ntmps68
  go_wp2
  go_ret
  exact ⟨rfl, Below.refl _ _⟩
set_option maxRecDepth 100000 in
set_option maxHeartbeats 4000000 in
theorem heavy_of (t : RTree) (ih : ∀ s ∈ kidsOf t, HeavyC s) : HeavyC t := by
 intro I v w hrep hd
 cases t with
 | name x =>
  obtain ⟨b, rfl, _, hx⟩ := hrep
  refine (heavy_leaf 110 _ _ _ b w hx (Or.inl rfl)).mono ?_
  rintro e w' ⟨rfl, hb⟩
  exact ⟨by simp [RTree.heavy, leafHeavy], hb⟩
 | hash x =>
  obtain ⟨b, rfl, _, hx⟩ := hrep
  refine (heavy_leaf 35 _ _ _ b w hx (by simp)).mono ?_
  rintro e w' ⟨rfl, hb⟩
  exact ⟨by simp [RTree.heavy, leafHeavy], hb⟩
 | num c =>
  obtain ⟨b, rfl, _, hx, _⟩ := hrep
  refine (heavy_leaf 100 _ _ _ b w hx (by simp)).mono ?_
  rintro e w' ⟨rfl, hb⟩
  exact ⟨by simp [RTree.heavy, leafHeavy], hb⟩
 | fold k kids =>
  obtain ⟨b, kv, vs, rfl, _, hx, _⟩ := hrep
  refine (heavy_leaf 33 _ _ _ b w hx (by simp)).mono ?_
  rintro e w' ⟨rfl, hb⟩
  exact ⟨by simp [RTree.heavy, leafHeavy], hb⟩
 | op k kids =>
  obtain ⟨b, kv, vs, rfl, _, hx, hk13, hvo, hown, _, hds⟩ := hrep
  obtain ⟨kp, kc, rfl⟩ := own_slice hown
  have HOWN := hide hown
  have HDS := hide hds
  have HVL : Hid (vs.length = kids.length) := hide hds.length
  have HIH : Hid (∀ s ∈ kids, HeavyC s) := hide ih
  have hv2 : vs.length ≤ 2 := by rw [hvo]; exact (Code.opOf_range k hk13).2
  have hvc : vs.length ≤ kc := own_cap hown
  have hxlt := lt_of_block hx
  have HWT := hide (weight_bs (Code.nameOf k))
  rw [weight_name k hk13] at HWT
  have hW := Code.opW_range k
  have hAll := Code.heavyAll_pos kids
  have hHv : Code.opW k + Code.heavyAll kids ≤ 100000 := by simpa [RTree.heavy] using hd
  have c0 := blk_cell hx 0 _ rfl
  have c1 := blk_cell hx 1 _ rfl
  clear hown hds ih hvo hd
  generalize Code.nameOf k = nm at *
  go_enter Tryz.func68, Tryz.ntmps68
  go_wp2_with fail
  refine (HWT.out w).mono ?_
  rintro e w ⟨rfl, rfl⟩
  go_wp2_with fail
  go_loopw [3, 4] (fun n i wr => ∃ j : Nat, j ≤ vs.length ∧ i = .int .i64 (j : Nat) ∧ n = .int .i64 (Code.opW k + Code.heavyAll (kids.take j)) ∧ Below w.heap.size w wr) (fun _ i _ => vs.length - (intOf i).toNat)
  case atStart => exact ⟨0, by omega, rfl, by simp [Code.heavyAll], Below.refl _ _⟩
  case round =>
   obtain ⟨j, hj, rfl, rfl, hbw⟩ := hrel
   have hx' := (hbw.block b hxlt).trans hx
   have c3 := blk_cell hx' 3 _ rfl
   have hr0 := Code.heavyAll_pos (kids.take j)
   have hle := Code.heavyAll_le kids j
   by_cases hlt : j < vs.length
   ·have hlk : j < kids.length := by rw [← HVL.out]; exact hlt
    obtain ⟨g, b', hge, hc, hr⟩ := kid_cell (own_below HOWN.out hbw) (HDS.out.below hbw) HVL.out j hlt hlk
    subst hge
    have hst := Code.heavyAll_take kids j hlk
    have hle2 := Code.heavyAll_le kids (j + 1)
    have hp := Code.heavy_pos kids[j]
    have HW := hide (HIH.out kids[j] (List.getElem_mem hlk) I _ wr hr (by omega))
    have hjl : (j : Int) < (vs.length : Int) := by omega
    clear hr
    generalize (kids[j]).heavy = hv at *
    generalize Code.heavyAll (kids.take j) = S at *
    generalize hS1 : Code.heavyAll (kids.take (j + 1)) = S1 at *
    go_wp2_with fail
    refine (HW.out).mono ?_
    rintro e w4 ⟨rfl, hb4⟩
    have hbw4 := hbw.trans (hb4.mono hbw.size)
    go_wp2
    exact ⟨⟨j + 1, by omega, by go_num, by rw [hS1, hst]; congr 1; omega, hbw4⟩, by simp [intOf]; omega⟩
   ·have hjn : kids.take j = kids := List.take_of_length_le (by rw [← HVL.out]; omega)
    rw [hjn]
    clear hjn
    go_wp2
    go_ret
    exact ⟨ret_int (by simp [RTree.heavy]), hbw⟩
theorem heavy_any (t : RTree) : HeavyC t := tree_all heavy_of t
def shp (x : List UInt8) (l : List Nm) : Nat := (if (x, false) ∈ l then 1 else 0) + (if (x, true) ∈ l then 2 else 0)
theorem shp_lt (x : List UInt8) (l : List Nm) : shp x l < 4 := by
 unfold shp
 split <;> split <;> omega
theorem or4 (a b : Nat) (ha : a < 4) (hb : b < 4) : bits .or .i64 (a : Int) (b : Int) = ((a ||| b : Nat) : Int) := by
 match a, b, ha, hb with
 | 0, 0, _, _ | 0, 1, _, _ | 0, 2, _, _ | 0, 3, _, _ | 1, 0, _, _ | 1, 1, _, _ | 1, 2, _, _ | 1, 3, _, _ | 2, 0, _, _ | 2, 1, _, _ | 2, 2, _, _ | 2, 3, _, _ | 3, 0, _, _ | 3, 1, _, _ | 3, 2, _, _ | 3, 3, _, _ => decide
theorem shp_app (x : List UInt8) (a b : List Nm) : shp x (a ++ b) = shp x a ||| shp x b := by
 unfold shp
 simp only [List.mem_append]
 by_cases h1 : (x, false) ∈ a <;> by_cases h2 : (x, true) ∈ a <;> by_cases h3 : (x, false) ∈ b <;> by_cases h4 : (x, true) ∈ b <;> simp [h1, h2, h3, h4]
theorem namesAll_eq (l : List RTree) : Code.namesAll l = l.flatMap RTree.names := by
 induction l with
 | nil => simp [Code.namesAll]
 | cons t l ih => simp [Code.namesAll, ih]
theorem shp_take (x : List UInt8) (l : List RTree) (k : Nat) (h : k < l.length) : shp x (Code.namesAll (l.take (k + 1))) = shp x (Code.namesAll (l.take k)) ||| shp x (l[k]).names := by
 rw [List.take_add_one, List.getElem?_eq_getElem h, namesAll_eq, List.flatMap_append, shp_app, ← namesAll_eq]
 simp
def SharpC (t : RTree) : Prop := ∀ (I : Nat → Prop) (v : Value) (x : List UInt8) (w : World), RepD w I v t →
 Calls Tryz.prog 109 #[v, .string (bs x)] w fun e w' => e = .returned (.int .i64 (shp x t.names : Nat)) ∧ Below w.heap.size w w'
def leafSharp (kd : Nat) (y x : List UInt8) : Int := if kd = 110 ∧ y = x then 1 else if kd = 35 ∧ y = x then 2 else 0
set_option maxRecDepth 100000 in
set_option maxHeartbeats 4000000 in
theorem sharp_leaf (kd : Nat) (y : List UInt8) (c : Int) (b : Nat) (x : List UInt8) (w : World) (hx : w.heap[b]? = some (.cells #[.int .u8 (kd : Nat), .string (bs y), .int .i64 c, .slice none 0 0] 135)) (h : kd = 110 ∨ kd = 35 ∨ kd = 100) :
  Calls Tryz.prog 109 #[.pointer (some ⟨b, 0, none⟩), .string (bs x)] w fun e w' => e = .returned (.int .i64 (leafSharp kd y x)) ∧ Below w.heap.size w w' := by
 have c0 := blk_cell hx 0 _ rfl
 have c1 := blk_cell hx 1 _ rfl
 have c3 := blk_cell hx 3 _ rfl
 have hcmp := str_eq y x
 by_cases he : y = x
 ·rw [decide_eq_true he] at hcmp
  rcases h with rfl | rfl | rfl
  all_goals
   have HE := hide he
   clear he
   go_enter Tryz.func109, Tryz.ntmps109
   go_wp2_with fail
   refine wp_loop_rounds 1 ?_
   rw [rounds_succ]
   go_wp2
   go_ret
   exact ⟨ret_int (by simp [leafSharp, HE.out]), Below.refl _ _⟩
 ·rw [decide_eq_false he] at hcmp
  rcases h with rfl | rfl | rfl
  all_goals
   have HE := hide he
   clear he
   go_enter Tryz.func109, Tryz.ntmps109
   go_wp2_with fail
   refine wp_loop_rounds 1 ?_
   rw [rounds_succ]
   go_wp2
   go_ret
   exact ⟨ret_int (by simp [leafSharp, HE.out]), Below.refl _ _⟩
set_option maxRecDepth 100000 in
set_option maxHeartbeats 4000000 in
theorem sharp_of (t : RTree) (ih : ∀ s ∈ kidsOf t, SharpC s) : SharpC t := by
 intro I v x w hrep
 have leaf : ∀ (kd : Nat) (y : List UInt8) (c : Int) (b : Nat), v = .pointer (some ⟨b, 0, none⟩) → w.heap[b]? = some (.cells #[.int .u8 (kd : Nat), .string (bs y), .int .i64 c, .slice none 0 0] 135) → (kd = 110 ∨ kd = 35 ∨ kd = 100) → (leafSharp kd y x = (shp x t.names : Nat)) →
   Calls Tryz.prog 109 #[v, .string (bs x)] w fun e w' => e = .returned (.int .i64 (shp x t.names : Nat)) ∧ Below w.heap.size w w' := fun kd y c b hv hx hk he => by
  subst hv
  refine (sharp_leaf kd y c b x w hx hk).mono ?_
  rintro e w' ⟨rfl, hb⟩
  exact ⟨by rw [he], hb⟩
 by_cases hop : (∃ k kids, t = .op k kids) ∨ (∃ k kids, t = .fold k kids)
 ·obtain ⟨b, kp, kc, vs, rfl, hx, hown, hv2, hvl, hvc, hds⟩ := hrep.open
  have hnm : t.names = Code.namesAll (kidsOf t) := by
   rcases hop with ⟨k, kids, rfl⟩ | ⟨k, kids, rfl⟩ <;> simp [RTree.names, kidsOf]
  have hkd : ((((kindOf t : Nat) : Int) == 110) = false) ∧ ((((kindOf t : Nat) : Int) == 35) = false) := by
   rcases hop with ⟨k, kids, rfl⟩ | ⟨k, kids, rfl⟩ <;> exact ⟨rfl, rfl⟩
  have HOWN := hide hown
  have HDS := hide hds
  have HVL := hide hvl
  have HIH := hide ih
  have HNM := hide hnm
  have hxlt := lt_of_block hx
  obtain ⟨hk1, hk2⟩ := hkd
  have c0 := blk_cell hx 0 _ rfl
  clear hrep hown hds hvl ih hop leaf hnm
  generalize kindOf t = kd at *
  generalize wordOf t = wd at *
  generalize kidsOf t = kids at *
  go_enter Tryz.func109, Tryz.ntmps109
  go_wp2_with fail
  go_loopw [5, 6] (fun n i wr => ∃ j : Nat, j ≤ vs.length ∧ i = .int .i64 (j : Nat) ∧ n = .int .i64 (shp x (Code.namesAll (kids.take j)) : Nat) ∧ Below w.heap.size w wr) (fun _ i _ => vs.length - (intOf i).toNat)
  case atStart => exact ⟨0, by omega, rfl, by simp [Code.namesAll, shp], Below.refl _ _⟩
  case round =>
   obtain ⟨j, hj, rfl, rfl, hbw⟩ := hrel
   have hx' := (hbw.block b hxlt).trans hx
   have c3 := blk_cell hx' 3 _ rfl
   by_cases hlt : j < vs.length
   ·have hlk : j < kids.length := by rw [← HVL.out]; exact hlt
    obtain ⟨g, b', hge, hc, hr⟩ := kid_cell (own_below HOWN.out hbw) (HDS.out.below hbw) HVL.out j hlt hlk
    subst hge
    have HST := hide (shp_take x kids j hlk)
    have HOR := hide (or4 _ _ (shp_lt x (Code.namesAll (kids.take j))) (shp_lt x (kids[j]).names))
    have HW := hide (HIH.out kids[j] (List.getElem_mem hlk) I _ x wr hr)
    have hjl : (j : Int) < (vs.length : Int) := by omega
    clear hr
    generalize shp x (kids[j]).names = hv at *
    generalize shp x (Code.namesAll (kids.take j)) = S at *
    generalize hS1 : shp x (Code.namesAll (kids.take (j + 1))) = S1 at *
    go_wp2_with fail
    refine (HW.out).mono ?_
    rintro e w4 ⟨rfl, hb4⟩
    have hbw4 := hbw.trans (hb4.mono hbw.size)
    go_wp2
    exact ⟨⟨j + 1, by omega, by go_num, by rw [hS1, HST.out, ← HOR.out], hbw4⟩, by simp [intOf]; omega⟩
   ·have hjn : kids.take j = kids := List.take_of_length_le (by rw [← HVL.out]; omega)
    rw [hjn]
    clear hjn
    go_wp2
    go_ret
    exact ⟨ret_int (by rw [HNM.out]), hbw⟩
 ·cases t with
  | name y =>
   obtain ⟨b, h1, _, hx⟩ := hrep
   refine leaf 110 y 0 b h1 hx (Or.inl rfl) ?_
   by_cases he : y = x
   ·subst he; simp [leafSharp, shp, RTree.names]
   ·have he' : ¬ x = y := fun h => he h.symm
    simp [leafSharp, shp, RTree.names, he, he']
  | hash y =>
   obtain ⟨b, h1, _, hx⟩ := hrep
   refine leaf 35 y 0 b h1 hx (by simp) ?_
   by_cases he : y = x
   ·subst he; simp [leafSharp, shp, RTree.names]
   ·have he' : ¬ x = y := fun h => he h.symm
    simp [leafSharp, shp, RTree.names, he, he']
  | num c =>
   obtain ⟨b, h1, _, hx, _⟩ := hrep
   refine leaf 100 [] c b h1 hx (by simp) ?_
   simp [leafSharp, shp, RTree.names]
  | op k kids => exact absurd (Or.inl ⟨k, kids, rfl⟩) hop
  | fold k kids => exact absurd (Or.inr ⟨k, kids, rfl⟩) hop
theorem sharps_any (t : RTree) : SharpC t := tree_all sharp_of t
def alikeP (m : List Nm) (p : Nm) : Bool := shp p.1 m != 3
def boundP (m : List Nm) (p : Nm) : Bool := match p.2 with
 | true => shp p.1 m == 2
 | false => shp p.1 m != 0
theorem all_take {q : Nm → Bool} (l : List RTree) (k : Nat) (h : k < l.length) : (Code.namesAll (l.take (k + 1))).all q = ((Code.namesAll (l.take k)).all q && (l[k]).names.all q) := by
 rw [List.take_add_one, List.getElem?_eq_getElem h, namesAll_eq, List.flatMap_append, List.all_append, ← namesAll_eq]
 simp
theorem all_no {q : Nm → Bool} (l : List RTree) (k : Nat) (h : k < l.length) (hn : (l[k]).names.all q = false) : (Code.namesAll l).all q = false := by
 rw [namesAll_eq]
 have hm : l[k] ∈ l := List.getElem_mem h
 rw [Bool.eq_false_iff] at hn ⊢
 intro ht
 apply hn
 rw [List.all_eq_true] at ht ⊢
 exact fun p hp => ht p (List.mem_flatMap.2 ⟨_, hm, hp⟩)
set_option maxRecDepth 100000 in
set_option maxHeartbeats 4000000 in
theorem alike_kids (t : RTree) (kids : List RTree) (kd : Nat) (hkd : kd = 111 ∨ kd = 33) (hnm : t.names = Code.namesAll kids) {I J : Nat → Prop} {a : RTree} {ab : Nat} {v : Value} {w : World}
  (ih : ∀ s ∈ kids, ∀ (I J : Nat → Prop) (v va : Value) (a : RTree) (w : World), RepD w I v s → RepD w J va a → Calls Tryz.prog 66 #[v, va] w fun e w' => e = .returned (.bool (s.names.all (alikeP a.names))) ∧ Below w.heap.size w w')
  (hop : ∃ b kp kc vs, v = .pointer (some ⟨b, 0, none⟩) ∧ w.heap[b]? = some (.cells #[.int .u8 (kindOf t : Nat), .string (bs (wordOf t)), .int .i64 (numOf t), .slice kp vs.length kc] 135) ∧ w.ownsRow 0 67 1 (.slice kp vs.length kc) vs.length vs ∧ vs.length ≤ 2 ∧ vs.length = (kidsOf t).length ∧ vs.length ≤ kc ∧ RepDs w I vs (kidsOf t))
  (hkk : kidsOf t = kids) (hki : kindOf t = kd) (HRA : Hid (RepD w J (.pointer (some ⟨ab, 0, none⟩)) a)) :
  Calls Tryz.prog 66 #[v, .pointer (some ⟨ab, 0, none⟩)] w fun e w' => e = .returned (.bool (t.names.all (alikeP a.names))) ∧ Below w.heap.size w w' := by
 obtain ⟨b, kp, kc, vs, rfl, hx, hown, hv2, hvl, hvc, hds⟩ := hop
 rw [hkk] at hvl hds
 rw [hki] at hx
 have HOWN := hide hown
 have HDS := hide hds
 have HVL := hide hvl
 have HIH := hide ih
 have HNM := hide hnm
 have hxlt := lt_of_block hx
 have c0 := blk_cell hx 0 _ rfl
 clear hown hds hvl ih hnm hkk hki
 generalize wordOf t = wd at *
 generalize numOf t = nn at *
 rcases hkd with rfl | rfl
 all_goals
  go_enter Tryz.func66, Tryz.ntmps66
  go_wp2_with fail
  go_loopw [5] (fun i wr => ∃ j : Nat, j ≤ vs.length ∧ i = .int .i64 (j : Nat) ∧ Below w.heap.size w wr ∧ Hid ((Code.namesAll (kids.take j)).all (alikeP a.names) = true)) (fun i _ => vs.length - (intOf i).toNat)
  case atStart => exact ⟨0, by omega, rfl, Below.refl _ _, by simp [Hid, Code.namesAll]⟩
  case round =>
   obtain ⟨j, hj, rfl, hbw, hall⟩ := hrel
   have hx' := (hbw.block b hxlt).trans hx
   have c3 := blk_cell hx' 3 _ rfl
   by_cases hlt : j < vs.length
   ·have hlk : j < kids.length := by rw [← HVL.out]; exact hlt
    obtain ⟨g, b', hge, hc, hr⟩ := kid_cell (own_below HOWN.out hbw) (HDS.out.below hbw) HVL.out j hlt hlk
    subst hge
    have HST := hide (all_take (q := alikeP a.names) kids j hlk)
    have HNO := hide (all_no (q := alikeP a.names) kids j hlk)
    have HW := hide (HIH.out kids[j] (List.getElem_mem hlk) I J _ _ a wr hr (HRA.out.below hbw))
    have hjl : (j : Int) < (vs.length : Int) := by omega
    clear hr
    cases hq : (kids[j]).names.all (alikeP a.names) with
    | true =>
     have HN : Hid ((Code.namesAll (kids.take (j + 1))).all (alikeP a.names) = true) := by rw [HST.out, hall.out, hq]; exact rfl
     rw [hq] at HW
     clear hq HST HNO
     go_wp2_with fail
     refine (HW.out).mono ?_
     rintro e w4 ⟨rfl, hb4⟩
     have hbw4 := hbw.trans (hb4.mono hbw.size)
     go_wp2
     exact ⟨⟨j + 1, by omega, by go_num, hbw4, HN⟩, by simp [intOf]; omega⟩
    | false =>
     have HN : Hid (t.names.all (alikeP a.names) = false) := by rw [HNM.out]; exact HNO.out hq
     rw [hq] at HW
     clear hq HST HNO
     go_wp2_with fail
     refine (HW.out).mono ?_
     rintro e w4 ⟨rfl, hb4⟩
     have hbw4 := hbw.trans (hb4.mono hbw.size)
     go_wp2
     go_ret
     exact ⟨ret_bool HN.out.symm, hbw4⟩
   ·have HN : Hid (t.names.all (alikeP a.names) = true) := by
     have hjn : kids.take j = kids := List.take_of_length_le (by rw [← HVL.out]; omega)
     rw [HNM.out, ← hall.out, hjn]; exact rfl
    go_wp2
    go_ret
    exact ⟨ret_bool HN.out.symm, hbw⟩
def AlikeC (t : RTree) : Prop := ∀ (I J : Nat → Prop) (v va : Value) (a : RTree) (w : World), RepD w I v t → RepD w J va a →
 Calls Tryz.prog 66 #[v, va] w fun e w' => e = .returned (.bool (t.names.all (alikeP a.names))) ∧ Below w.heap.size w w'
set_option maxRecDepth 100000 in
set_option maxHeartbeats 4000000 in
theorem alike_of (t : RTree) (ih : ∀ s ∈ kidsOf t, AlikeC s) : AlikeC t := by
 intro I J v va a w hrep hra
 have HSH := hide (fun x => sharps_any a J va x w hra)
 obtain ⟨ab, rfl, _, _⟩ := hra.ptr
 have HRA := hide hra
 clear hra
 cases t with
 | num c =>
  obtain ⟨b, rfl, _, hx, _⟩ := hrep
  have c0 := blk_cell hx 0 _ rfl
  have c3 := blk_cell hx 3 _ rfl
  go_enter Tryz.func66, Tryz.ntmps66
  go_wp2_with fail
  refine wp_loop_rounds 1 ?_
  rw [rounds_succ]
  go_wp2
  go_ret
  exact ⟨ret_bool (by simp [RTree.names]), Below.refl _ _⟩
 | name x =>
  obtain ⟨b, rfl, _, hx⟩ := hrep
  have c0 := blk_cell hx 0 _ rfl
  have c1 := blk_cell hx 1 _ rfl
  have hxlt := lt_of_block hx
  have HSX := hide (HSH.out x)
  have hlt4 := shp_lt x a.names
  have HQ : Hid ((RTree.name x).names.all (alikeP a.names) = !decide (shp x a.names = 3)) := by
   simp only [Hid, RTree.names, alikeP, List.all_cons, List.all_nil, Bool.and_true, bne]
   congr 1
  by_cases h3 : shp x a.names = 3
  ·have h3' : (((shp x a.names : Nat) : Int) == 3) = true := by rw [h3]; rfl
   rw [decide_eq_true h3] at HQ
   clear h3
   generalize shp x a.names = sn at *
   go_enter Tryz.func66, Tryz.ntmps66
   go_wp2_with fail
   refine (HSX.out).mono ?_
   rintro e w1 ⟨rfl, hb1⟩
   go_wp2
   go_ret
   exact ⟨ret_bool HQ.out.symm, hb1⟩
  ·have h3' : (((shp x a.names : Nat) : Int) == 3) = false := beq_eq_false_iff_ne.2 (by omega)
   rw [decide_eq_false h3] at HQ
   clear h3
   generalize shp x a.names = sn at *
   go_enter Tryz.func66, Tryz.ntmps66
   go_wp2_with fail
   refine (HSX.out).mono ?_
   rintro e w1 ⟨rfl, hb1⟩
   have c3 := blk_cell ((hb1.block b hxlt).trans hx) 3 _ rfl
   go_wp2_with fail
   refine wp_loop_rounds 1 ?_
   rw [rounds_succ]
   go_wp2
   go_ret
   exact ⟨ret_bool HQ.out.symm, hb1⟩
 | hash x =>
  obtain ⟨b, rfl, _, hx⟩ := hrep
  have c0 := blk_cell hx 0 _ rfl
  have c1 := blk_cell hx 1 _ rfl
  have hxlt := lt_of_block hx
  have HSX := hide (HSH.out x)
  have hlt4 := shp_lt x a.names
  have HQ : Hid ((RTree.hash x).names.all (alikeP a.names) = !decide (shp x a.names = 3)) := by
   simp only [Hid, RTree.names, alikeP, List.all_cons, List.all_nil, Bool.and_true, bne]
   congr 1
  by_cases h3 : shp x a.names = 3
  ·have h3' : (((shp x a.names : Nat) : Int) == 3) = true := by rw [h3]; rfl
   rw [decide_eq_true h3] at HQ
   clear h3
   generalize shp x a.names = sn at *
   go_enter Tryz.func66, Tryz.ntmps66
   go_wp2_with fail
   refine (HSX.out).mono ?_
   rintro e w1 ⟨rfl, hb1⟩
   go_wp2
   go_ret
   exact ⟨ret_bool HQ.out.symm, hb1⟩
  ·have h3' : (((shp x a.names : Nat) : Int) == 3) = false := beq_eq_false_iff_ne.2 (by omega)
   rw [decide_eq_false h3] at HQ
   clear h3
   generalize shp x a.names = sn at *
   go_enter Tryz.func66, Tryz.ntmps66
   go_wp2_with fail
   refine (HSX.out).mono ?_
   rintro e w1 ⟨rfl, hb1⟩
   have c3 := blk_cell ((hb1.block b hxlt).trans hx) 3 _ rfl
   go_wp2_with fail
   refine wp_loop_rounds 1 ?_
   rw [rounds_succ]
   go_wp2
   go_ret
   exact ⟨ret_bool HQ.out.symm, hb1⟩
 | op k kids => exact alike_kids (.op k kids) kids 111 (by simp) (by simp [RTree.names]) ih hrep.open rfl rfl HRA
 | fold k kids => exact alike_kids (.fold k kids) kids 33 (by simp) (by simp [RTree.names]) ih hrep.open rfl rfl HRA
theorem alike_any (t : RTree) : AlikeC t := tree_all alike_of t
set_option maxRecDepth 100000 in
set_option maxHeartbeats 4000000 in
theorem bound_kids (t : RTree) (kids : List RTree) (kd : Nat) (hkd : kd = 111 ∨ kd = 33) (hnm : t.names = Code.namesAll kids) {I J : Nat → Prop} {a : RTree} {ab : Nat} {v : Value} {w : World}
  (ih : ∀ s ∈ kids, ∀ (I J : Nat → Prop) (v va : Value) (a : RTree) (w : World), RepD w I v s → RepD w J va a → Calls Tryz.prog 67 #[v, va] w fun e w' => e = .returned (.bool (s.names.all (boundP a.names))) ∧ Below w.heap.size w w')
  (hop : ∃ b kp kc vs, v = .pointer (some ⟨b, 0, none⟩) ∧ w.heap[b]? = some (.cells #[.int .u8 (kindOf t : Nat), .string (bs (wordOf t)), .int .i64 (numOf t), .slice kp vs.length kc] 135) ∧ w.ownsRow 0 67 1 (.slice kp vs.length kc) vs.length vs ∧ vs.length ≤ 2 ∧ vs.length = (kidsOf t).length ∧ vs.length ≤ kc ∧ RepDs w I vs (kidsOf t))
  (hkk : kidsOf t = kids) (hki : kindOf t = kd) (HRA : Hid (RepD w J (.pointer (some ⟨ab, 0, none⟩)) a)) :
  Calls Tryz.prog 67 #[v, .pointer (some ⟨ab, 0, none⟩)] w fun e w' => e = .returned (.bool (t.names.all (boundP a.names))) ∧ Below w.heap.size w w' := by
 obtain ⟨b, kp, kc, vs, rfl, hx, hown, hv2, hvl, hvc, hds⟩ := hop
 rw [hkk] at hvl hds
 rw [hki] at hx
 have HOWN := hide hown
 have HDS := hide hds
 have HVL := hide hvl
 have HIH := hide ih
 have HNM := hide hnm
 have hxlt := lt_of_block hx
 have c0 := blk_cell hx 0 _ rfl
 clear hown hds hvl ih hnm hkk hki
 generalize wordOf t = wd at *
 generalize numOf t = nn at *
 rcases hkd with rfl | rfl
 all_goals
  go_enter Tryz.func67, Tryz.ntmps67
  go_wp2_with fail
  go_loopw [6] (fun i wr => ∃ j : Nat, j ≤ vs.length ∧ i = .int .i64 (j : Nat) ∧ Below w.heap.size w wr ∧ Hid ((Code.namesAll (kids.take j)).all (boundP a.names) = true)) (fun i _ => vs.length - (intOf i).toNat)
  case atStart => exact ⟨0, by omega, rfl, Below.refl _ _, by simp [Hid, Code.namesAll]⟩
  case round =>
   obtain ⟨j, hj, rfl, hbw, hall⟩ := hrel
   have hx' := (hbw.block b hxlt).trans hx
   have c3 := blk_cell hx' 3 _ rfl
   by_cases hlt : j < vs.length
   ·have hlk : j < kids.length := by rw [← HVL.out]; exact hlt
    obtain ⟨g, b', hge, hc, hr⟩ := kid_cell (own_below HOWN.out hbw) (HDS.out.below hbw) HVL.out j hlt hlk
    subst hge
    have HST := hide (all_take (q := boundP a.names) kids j hlk)
    have HNO := hide (all_no (q := boundP a.names) kids j hlk)
    have HW := hide (HIH.out kids[j] (List.getElem_mem hlk) I J _ _ a wr hr (HRA.out.below hbw))
    have hjl : (j : Int) < (vs.length : Int) := by omega
    clear hr
    cases hq : (kids[j]).names.all (boundP a.names) with
    | true =>
     have HN : Hid ((Code.namesAll (kids.take (j + 1))).all (boundP a.names) = true) := by rw [HST.out, hall.out, hq]; exact rfl
     rw [hq] at HW
     clear hq HST HNO
     go_wp2_with fail
     refine (HW.out).mono ?_
     rintro e w4 ⟨rfl, hb4⟩
     have hbw4 := hbw.trans (hb4.mono hbw.size)
     go_wp2
     exact ⟨⟨j + 1, by omega, by go_num, hbw4, HN⟩, by simp [intOf]; omega⟩
    | false =>
     have HN : Hid (t.names.all (boundP a.names) = false) := by rw [HNM.out]; exact HNO.out hq
     rw [hq] at HW
     clear hq HST HNO
     go_wp2_with fail
     refine (HW.out).mono ?_
     rintro e w4 ⟨rfl, hb4⟩
     have hbw4 := hbw.trans (hb4.mono hbw.size)
     go_wp2
     go_ret
     exact ⟨ret_bool HN.out.symm, hbw4⟩
   ·have HN : Hid (t.names.all (boundP a.names) = true) := by
     have hjn : kids.take j = kids := List.take_of_length_le (by rw [← HVL.out]; omega)
     rw [HNM.out, ← hall.out, hjn]; exact rfl
    go_wp2
    go_ret
    exact ⟨ret_bool HN.out.symm, hbw⟩
def BoundC (t : RTree) : Prop := ∀ (I J : Nat → Prop) (v va : Value) (a : RTree) (w : World), RepD w I v t → RepD w J va a →
 Calls Tryz.prog 67 #[v, va] w fun e w' => e = .returned (.bool (t.names.all (boundP a.names))) ∧ Below w.heap.size w w'
set_option maxRecDepth 100000 in
set_option maxHeartbeats 4000000 in
theorem bound_of (t : RTree) (ih : ∀ s ∈ kidsOf t, BoundC s) : BoundC t := by
 intro I J v va a w hrep hra
 have HSH := hide (fun x => sharps_any a J va x w hra)
 obtain ⟨ab, rfl, _, _⟩ := hra.ptr
 have HRA := hide hra
 clear hra
 cases t with
 | num c =>
  obtain ⟨b, rfl, _, hx, _⟩ := hrep
  have c0 := blk_cell hx 0 _ rfl
  have c3 := blk_cell hx 3 _ rfl
  go_enter Tryz.func67, Tryz.ntmps67
  go_wp2_with fail
  refine wp_loop_rounds 1 ?_
  rw [rounds_succ]
  go_wp2
  go_ret
  exact ⟨ret_bool (by simp [RTree.names]), Below.refl _ _⟩
 | name x =>
  obtain ⟨b, rfl, _, hx⟩ := hrep
  have c0 := blk_cell hx 0 _ rfl
  have c1 := blk_cell hx 1 _ rfl
  have hxlt := lt_of_block hx
  have HSX := hide (HSH.out x)
  have HQ : Hid ((RTree.name x).names.all (boundP a.names) = decide (¬ shp x a.names = 0)) := by
   simp [Hid, RTree.names, boundP, bne, BEq.beq]
  by_cases h3 : shp x a.names = 0
  ·have h3' : (((shp x a.names : Nat) : Int) == 0) = true := by rw [h3]; rfl
   have HV : Hid ((RTree.name x).names.all (boundP a.names) = false) := by rw [HQ.out]; simp [Hid, h3]
   clear h3 HQ
   generalize shp x a.names = sn at *
   go_enter Tryz.func67, Tryz.ntmps67
   go_wp2_with fail
   refine (HSX.out).mono ?_
   rintro e w1 ⟨rfl, hb1⟩
   have c0' := blk_cell ((hb1.block b hxlt).trans hx) 0 _ rfl
   have c3 := blk_cell ((hb1.block b hxlt).trans hx) 3 _ rfl
   go_wp2
   go_ret
   exact ⟨ret_bool HV.out.symm, hb1⟩
  ·have h3' : (((shp x a.names : Nat) : Int) == 0) = false := beq_eq_false_iff_ne.2 (by omega)
   have HV : Hid ((RTree.name x).names.all (boundP a.names) = true) := by rw [HQ.out]; simp [Hid, h3]
   clear h3 HQ
   generalize shp x a.names = sn at *
   go_enter Tryz.func67, Tryz.ntmps67
   go_wp2_with fail
   refine (HSX.out).mono ?_
   rintro e w1 ⟨rfl, hb1⟩
   have c0' := blk_cell ((hb1.block b hxlt).trans hx) 0 _ rfl
   have c3 := blk_cell ((hb1.block b hxlt).trans hx) 3 _ rfl
   go_wp2_with fail
   refine wp_loop_rounds 1 ?_
   rw [rounds_succ]
   go_wp2
   go_ret
   exact ⟨ret_bool HV.out.symm, hb1⟩
 | hash x =>
  obtain ⟨b, rfl, _, hx⟩ := hrep
  have c0 := blk_cell hx 0 _ rfl
  have c1 := blk_cell hx 1 _ rfl
  have hxlt := lt_of_block hx
  have HSX := hide (HSH.out x)
  have HQ : Hid ((RTree.hash x).names.all (boundP a.names) = decide (shp x a.names = 2)) := by
   simp [Hid, RTree.names, boundP, BEq.beq]
  by_cases h3 : shp x a.names = 2
  ·have h3' : (((shp x a.names : Nat) : Int) == 2) = true := by rw [h3]; rfl
   have HV : Hid ((RTree.hash x).names.all (boundP a.names) = true) := by rw [HQ.out]; simp [Hid, h3]
   clear h3 HQ
   generalize shp x a.names = sn at *
   go_enter Tryz.func67, Tryz.ntmps67
   go_wp2_with fail
   refine (HSX.out).mono ?_
   rintro e w1 ⟨rfl, hb1⟩
   have c0' := blk_cell ((hb1.block b hxlt).trans hx) 0 _ rfl
   have c3 := blk_cell ((hb1.block b hxlt).trans hx) 3 _ rfl
   go_wp2_with fail
   refine wp_loop_rounds 1 ?_
   rw [rounds_succ]
   go_wp2
   go_ret
   exact ⟨ret_bool HV.out.symm, hb1⟩
  ·have h3' : (((shp x a.names : Nat) : Int) == 2) = false := beq_eq_false_iff_ne.2 (by omega)
   have HV : Hid ((RTree.hash x).names.all (boundP a.names) = false) := by rw [HQ.out]; simp [Hid, h3]
   clear h3 HQ
   generalize shp x a.names = sn at *
   go_enter Tryz.func67, Tryz.ntmps67
   go_wp2_with fail
   refine (HSX.out).mono ?_
   rintro e w1 ⟨rfl, hb1⟩
   have c0' := blk_cell ((hb1.block b hxlt).trans hx) 0 _ rfl
   have c3 := blk_cell ((hb1.block b hxlt).trans hx) 3 _ rfl
   go_wp2
   go_ret
   exact ⟨ret_bool HV.out.symm, hb1⟩
 | op k kids => exact bound_kids (.op k kids) kids 111 (by simp) (by simp [RTree.names]) ih hrep.open rfl rfl HRA
 | fold k kids => exact bound_kids (.fold k kids) kids 33 (by simp) (by simp [RTree.names]) ih hrep.open rfl rfl HRA
theorem bound_any (t : RTree) : BoundC t := tree_all bound_of t
end Go.Proofs.YtedkjanogjglkaaGreatDoor.D
