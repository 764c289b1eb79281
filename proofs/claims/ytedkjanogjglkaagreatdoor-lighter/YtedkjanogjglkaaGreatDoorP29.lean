/-
  Parts of the proof: XRight, XSame, CIrRun2, RRight, RwRight, RRight2.
-/
import Derived.Test.YtedkjanogjglkaaGreatDoorP28
import Derived.Test.YtedkjanogjglkaaGreatDoorP09
import Derived.Test.YtedkjanogjglkaaGreatDoorP12
import Derived.Test.YtedkjanogjglkaaGreatDoorP07
import Derived.Test.YtedkjanogjglkaaGreatDoorP11
import Derived.Test.YtedkjanogjglkaaGreatDoorP10
import Derived.Test.YtedkjanogjglkaaGreatDoorP01
import Derived.Deep.RegionHeld3
import Derived.BigQuiet
import Derived.Deep.MidRow
import Derived.OwnWalk
import Derived.Test.YtedkjanogjglkaaGreatDoorP16
import Derived.Test.YtedkjanogjglkaaGreatDoorP22
namespace Go.Proofs.YtedkjanogjglkaaGreatDoor.Code
open Go.Proofs.YtedkjanogjglkaaGreatDoor.D.Ref (toV toL toB toF mkBlk)
/-! Blocks as the document's answer has them. -/
theorem toF_len (g : Fn) : (toF g).Blocks.length = g.blocks.length := by simp [toF]
theorem toF_get (g : Fn) (i : Nat) (h : i < g.blocks.length) : (toF g).Blocks[i]'(by rw [toF_len]; exact h) = toB g.blocks[i] := by simp [toF]
theorem toB_to (b : Blk) : (toB b).To = (tg b.last).map fun (t : Nat) => (t : Int) := by
 obtain ⟨vs, z⟩ := b
 cases z <;> rfl
theorem toV_V (v : Val) : (toV v).V = v.num := by
 obtain ⟨num, thing⟩ := v
 cases thing <;> rfl
theorem toB_values (b : Blk) : (toB b).Values = b.values.map toV := rfl
theorem mem_cast (l : List Nat) (t : Nat) : (t : Int) ∈ (l.map fun (t : Nat) => (t : Int)) ↔ t ∈ l := by
 constructor
 ·intro h
  obtain ⟨x, hx, e⟩ := List.mem_map.1 h
  have : x = t := by omega
  subst this; exact hx
 ·intro h
  exact List.mem_map.2 ⟨t, h, rfl⟩
theorem reach_iff (g : Fn) (i : Nat) : D.Ref.Reach (toF g) (-1) i ↔ Reached g.blocks i := by
 constructor
 ·intro h S h0 hc
  refine h S h0 fun a ha t hS ht _ => ?_
  have ha' : a < g.blocks.length := by rw [toF_len] at ha; exact ha
  rw [toF_get g a ha', toB_to, mem_cast] at ht
  exact hc a ha' t hS ht
 ·intro h S h0 hc
  refine h S h0 fun a ha t hS ht => ?_
  refine hc a (by rw [toF_len]; exact ha) t hS ?_ (by omega)
  rw [toF_get g a ha, toB_to, mem_cast]
  exact ht
/-! Each v number is made in one place. -/
theorem once_first {bks : List Blk} : ∀ {R : List Bool}, R.length = 60 -> (∀ b ∈ bks, ∀ v ∈ b.values, v.num < 60) -> Once R bks -> ∀ b ∈ bks, ∀ x ∈ nums b.values, R.getD x false = false := by
 induction bks with
 | nil => intro R _ _ _ b hb; simp at hb
 | cons b l ih =>
  intro R hR hn ho c hc x hx
  rcases List.mem_cons.1 hc with rfl | hc
  ·exact ho.1.2 x hx
  ·have := ih (R := addAll R b.values) (by rw [addAll_length]; exact hR) (fun y hy => hn y (List.mem_cons_of_mem _ hy)) ho.2 c hc x hx
   cases h : R.getD x false with
   | false => rfl
   | true =>
    have h2 := (addAll_get b.values R x (fun v hv => by rw [hR]; exact hn b List.mem_cons_self v hv)).2 (Or.inl h)
    rw [this] at h2; cases h2
theorem once_apart {bks : List Blk} : ∀ {R : List Bool}, R.length = 60 -> (∀ b ∈ bks, ∀ v ∈ b.values, v.num < 60) -> Once R bks -> ∀ i j (hi : i < bks.length) (hj : j < bks.length) x, x ∈ nums bks[i].values -> x ∈ nums bks[j].values -> i = j := by
 induction bks with
 | nil => intro R _ _ _ i j hi; simp at hi
 | cons b l ih =>
  intro R hR hn ho i j hi hj x hxi hxj
  have hR' : (addAll R b.values).length = 60 := by rw [addAll_length]; exact hR
  have hl : ∀ c ∈ l, ∀ v ∈ c.values, v.num < 60 := fun y hy => hn y (List.mem_cons_of_mem _ hy)
  have hbad : ∀ c ∈ l, x ∈ nums c.values -> x ∈ nums b.values -> False := by
   intro c hc h1 h2
   have h3 := once_first hR' hl ho.2 c hc x h1
   have h4 := (addAll_get b.values R x (fun v hv => by rw [hR]; exact hn b List.mem_cons_self v hv)).2 (Or.inr h2)
   rw [h3] at h4; cases h4
  match i, j, hi, hj, hxi, hxj with
  | 0, 0, _, _, _, _ => rfl
  | 0, j + 1, _, hj, hxi, hxj => exact (hbad _ (List.getElem_mem (by simpa using hj)) hxj hxi).elim
  | i + 1, 0, hi, _, hxi, hxj => exact (hbad _ (List.getElem_mem (by simpa using hi)) hxi hxj).elim
  | i + 1, j + 1, hi, hj, hxi, hxj =>
   have := ih hR' hl ho.2 i j (by simpa using hi) (by simpa using hj) x hxi hxj
   omega
theorem once_nodup {bks : List Blk} : ∀ {R : List Bool}, Once R bks -> ∀ b ∈ bks, (nums b.values).Nodup := by
 induction bks with
 | nil => intro R _ b hb; simp at hb
 | cons b l ih =>
  intro R ho c hc
  rcases List.mem_cons.1 hc with rfl | hc
  ·exact ho.1.1
  ·exact ih ho.2 c hc
theorem place_there (g : Fn) (hn : ∀ b ∈ g.blocks, ∀ v ∈ b.values, v.num < 60) (ho : Once noNumber g.blocks) (x j : Nat) (hj : j < g.blocks.length) (hx : x ∈ nums g.blocks[j].values) :
  ∃ k, ∃ hk : k < g.blocks[j].values.length, g.blocks[j].values[k].num = x /\ D.Ref.place (toF g) (x : Int) = ((j : Int), (k : Int)) /\ ∀ m, m <= g.blocks[j].values.length -> (x ∈ nums (g.blocks[j].values.take m) ↔ k < m) := by
 have hnd := once_nodup ho _ (List.getElem_mem hj)
 obtain ⟨k, hk, hkx⟩ := List.getElem_of_mem hx
 have hk' : k < g.blocks[j].values.length := by simpa [nums] using hk
 have hkx' : g.blocks[j].values[k].num = x := by simpa [nums] using hkx
 have huniq : ∀ m (hm : m < g.blocks[j].values.length), g.blocks[j].values[m].num = x -> m = k := by
  intro m hm e
  have h1 : (nums g.blocks[j].values)[m]'(by simpa [nums] using hm) = (nums g.blocks[j].values)[k] := by simp [nums, e, hkx']
  exact (List.getElem_inj hnd).1 h1
 refine ⟨k, hk', hkx', ?_, fun m hm => ?_⟩
 ·refine D.Ref.place_hit (toF g) x j k (by rw [toF_len]; exact hj) (fun i' hi' h => ?_) ?_
  ·have hi : i' < g.blocks.length := by rw [toF_len] at h; exact h
   rw [toF_get g i' hi, toB_values]
   refine D.Ref.findV_miss _ _ fun m' _ hm' => ?_
   simp only [List.getElem_map, toV_V]
   intro e
   have hm2 : m' < g.blocks[i'].values.length := by simpa using hm'
   have hx' : x ∈ nums g.blocks[i'].values := by
    have : g.blocks[i'].values[m'].num = x := by omega
    rw [<- this]
    exact List.mem_map.2 ⟨_, List.getElem_mem hm2, rfl⟩
   have := once_apart (R := noNumber) rfl hn ho i' j hi hj x hx' hx
   omega
  ·rw [toF_get g j hj, toB_values]
   refine D.Ref.findV_hit _ _ k (by simpa using hk') (fun m' hm' hm'' => ?_) ?_
   ·simp only [List.getElem_map, toV_V]
    intro e
    have := huniq m' (by simpa using hm'') (by omega)
    omega
   ·simp only [List.getElem_map, toV_V]; omega
 ·constructor
  ·intro h
   obtain ⟨v, hv, e⟩ := List.mem_map.1 h
   obtain ⟨q, hq, rfl⟩ := List.getElem_of_mem hv
   rw [List.length_take] at hq
   rw [List.getElem_take] at e
   have := huniq q (by omega) e
   omega
  ·intro h
   refine List.mem_map.2 ⟨g.blocks[j].values[k], ?_, hkx'⟩
   have : (g.blocks[j].values.take m)[k]'(by rw [List.length_take]; omega) = g.blocks[j].values[k] := List.getElem_take
   rw [<- this]
   exact List.getElem_mem _
theorem place_nowhere (g : Fn) (x : Nat) (h : ∀ j (hj : j < g.blocks.length), x ∉ nums g.blocks[j].values) : D.Ref.place (toF g) (x : Int) = (-1, -1) := by
 refine D.Ref.place_miss (toF g) x fun i' hi' _ => ?_
 have hi : i' < g.blocks.length := by rw [toF_len] at hi'; exact hi'
 rw [toF_get g i' hi, toB_values]
 refine D.Ref.findV_miss _ _ fun m' _ hm' => ?_
 simp only [List.getElem_map, toV_V]
 intro e
 have hm2 : m' < g.blocks[i'].values.length := by simpa using hm'
 refine h i' hi ?_
 have : g.blocks[i'].values[m'].num = x := by omega
 rw [<- this]
 exact List.mem_map.2 ⟨_, List.getElem_mem hm2, rfl⟩
/-! What is made on every way. -/
theorem free_own {bks : List Blk} {x j : Nat} (hown : ∀ i (hi : i < bks.length), x ∈ nums bks[i].values -> i = j) (h : Reached bks j) : Free bks x j := by
 have := h (fun i => Free bks x i \/ Free bks x j) (Or.inl Free.start) (fun a ha t hS ht => ?_)
 ·rcases this with h | h <;> exact h
 ·rcases hS with hS | hS
  ·by_cases hx : x ∈ nums bks[a].values
   ·have := hown a ha hx
    subst this
    exact Or.inr hS
   ·exact Or.inl (Free.step ha hS hx ht)
  ·exact Or.inr hS
theorem free_reach (g : Fn) {x b j : Nat} (hb : b < g.blocks.length) (hxb : x ∈ nums g.blocks[b].values) (hown : ∀ i (hi : i < g.blocks.length), x ∈ nums g.blocks[i].values -> i = b) (hne : b ≠ j) :
  Free g.blocks x j ↔ ((b : Int) ≠ 0 /\ D.Ref.Reach (toF g) (b : Int) j) := by
 constructor
 ·intro hf
  have key : ∀ j, Free g.blocks x j -> (b ≠ j -> (b : Int) ≠ 0 /\ D.Ref.Reach (toF g) (b : Int) j) := by
   intro j hf
   induction hf with
   | start => intro hne; exact ⟨by omega, D.Ref.Reach.zero _ _⟩
   | @step a t ha _ hxa htg ih =>
    intro hne
    have hba : b ≠ a := by
     rintro rfl
     exact hxa hxb
    obtain ⟨h1, h2⟩ := ih hba
    refine ⟨h1, D.Ref.Reach.step h2 (by rw [toF_len]; exact ha) ?_ (by omega)⟩
    rw [toF_get g a ha, toB_to, mem_cast]
    exact htg
  exact key j hf hne
 ·rintro ⟨h0, hr⟩
  have := hr (fun i => Free g.blocks x i /\ b ≠ i) ⟨Free.start, by omega⟩ (fun a ha t hS ht hb' => ?_)
  ·exact this.1
  ·have ha' : a < g.blocks.length := by rw [toF_len] at ha; exact ha
   rw [toF_get g a ha', toB_to, mem_cast] at ht
   refine ⟨Free.step ha' hS.1 (fun hx => ?_) ht, by omega⟩
   exact hS.2 (hown a ha' hx).symm
structure Base (g : Fn) : Prop where
 pos : 0 < g.blocks.length
 num : ∀ b ∈ g.blocks, ∀ v ∈ b.values, v.num < 60
 once : Once noNumber g.blocks
 goes : ∀ b ∈ g.blocks, ∀ t ∈ tg b.last, 1 <= t /\ t < g.blocks.length
 reached : ∀ i, i < g.blocks.length -> Reached g.blocks i
theorem made_iff (g : Fn) (hB : Base g) {A : Sets} (hA : A.length = g.blocks.length) (hA6 : All60 A) (hit : Iter g.blocks (startTo g.blocks.length g.blocks.length) A) (j : Nat) (hj : j < g.blocks.length) (m : Nat) (hm : m <= g.blocks[j].values.length) (x : Nat) (hx : x < 60) :
  (addAll (A.getD j []) (g.blocks[j].values.take m)).getD x false = true ↔ D.Ref.Made (toF g) (x : Int) j (m : Int) := by
 have h60 : (A.getD j []).length = 60 := getD_mem60 hA6 (by omega)
 rw [addAll_get _ _ x (fun v hv => by rw [h60]; exact hB.num _ (List.getElem_mem hj) v (List.mem_of_mem_take hv)), iter_iff hB.pos hB.num hB.goes hit j hj x hx]
 by_cases hex : ∃ b, ∃ hb : b < g.blocks.length, x ∈ nums g.blocks[b].values
 ·obtain ⟨b, hb, hxb⟩ := hex
  have hown : ∀ i (hi : i < g.blocks.length), x ∈ nums g.blocks[i].values -> i = b := fun i hi h => once_apart (R := noNumber) rfl hB.num hB.once i b hi hb x h hxb
  obtain ⟨k, hk, hkx, hpl, htk⟩ := place_there g hB.num hB.once x b hb hxb
  unfold D.Ref.Made
  rw [hpl]
  by_cases hbj : b = j
  ·subst hbj
   rw [htk m hm]
   have hfree := free_own hown (hB.reached b hb)
   constructor
   ·rintro (h | h)
    ·exact absurd hfree h
    ·exact ⟨by simp, Or.inl ⟨rfl, by simpa using h⟩⟩
   ·rintro ⟨_, (h | h)⟩
    ·exact Or.inr (by have := h.2; simp at this; exact this)
    ·exact absurd rfl h.1
  ·have hnot : x ∉ nums (g.blocks[j].values.take m) := by
    intro h
    refine hbj (hown j hj ?_).symm
    obtain ⟨v, hv, e⟩ := List.mem_map.1 h
    exact List.mem_map.2 ⟨v, List.mem_of_mem_take hv, e⟩
   have hfr := free_reach g hb hxb hown hbj
   constructor
   ·rintro (h | h)
    ·exact ⟨by simp, Or.inr ⟨by simp; omega, fun hh => h (hfr.2 hh)⟩⟩
    ·exact absurd h hnot
   ·rintro ⟨_, (h | h)⟩
    ·exact absurd (by have := h.1; simp at this; omega) hbj
    ·exact Or.inl fun hf => h.2 (hfr.1 hf)
 ·have hno : ∀ i (hi : i < g.blocks.length), x ∉ nums g.blocks[i].values := fun i hi h => hex ⟨i, hi, h⟩
  have hpl := place_nowhere g x hno
  unfold D.Ref.Made
  rw [hpl]
  constructor
  ·rintro (h | h)
   ·exact absurd (free_own (fun i hi h => absurd h (hno i hi)) (hB.reached j hj)) h
   ·obtain ⟨v, hv, e⟩ := List.mem_map.1 h
    exact absurd (List.mem_map.2 ⟨v, List.mem_of_mem_take hv, e⟩) (hno j hj)
  ·rintro ⟨h, _⟩
   simp at h
/-! Edges. -/
theorem refEdgesTo (t i : Nat) : ∀ (l : List Nat) (k : Nat), D.Ref.edgesTo (t : Int) i (l.map fun (x : Nat) => (x : Int)) k = ((edgesTo i l k).filter fun e => e.2.2 == t).map fun e => ((e.1 : Int), (e.2.1 : Int))
 | [], _ => rfl
 | x :: l, k => by
  have ih := refEdgesTo t i l (k + 1)
  rw [List.map_cons]
  by_cases h : x = t
  ·subst h
   rw [D.Ref.edgesTo_hit rfl, ih]
   simp [edgesTo]
  ·rw [D.Ref.edgesTo_miss (by omega), ih]
   simp [edgesTo, h]
theorem refEdgesGo (t : Nat) : ∀ (l : List Blk) (i : Nat), D.Ref.edgesGo (t : Int) (l.map toB) i = ((edgesGo l i).filter fun e => e.2.2 == t).map fun e => ((e.1 : Int), (e.2.1 : Int))
 | [], _ => rfl
 | b :: l, i => by
  show D.Ref.edgesTo (t : Int) i (toB b).To 0 ++ D.Ref.edgesGo (t : Int) (l.map toB) (i + 1) = _
  rw [toB_to, refEdgesTo, refEdgesGo t l (i + 1)]
  show _ = ((edgesTo i (tg b.last) 0 ++ edgesGo l (i + 1)).filter _).map _
  rw [List.filter_append, List.map_append]
theorem refEdges (g : Fn) (t : Nat) : D.Ref.edges (toF g) (t : Int) = ((edgesGo g.blocks 0).filter fun e => e.2.2 == t).map fun e => ((e.1 : Int), (e.2.1 : Int)) := refEdgesGo t g.blocks 0
theorem refEdges_len (g : Fn) (t : Nat) (ht : t < g.blocks.length) : (D.Ref.edges (toF g) (t : Int)).length = (edges g.blocks).counts.getD t 0 := by
 rw [refEdges, List.length_map, <- List.countP_eq_length_filter]
 unfold edges
 rw [fold_counts t _ _ (by simpa using ht)]
 simp [List.getD_eq_getElem?_getD, ht, into]
theorem edge_back (g : Fn) (j k : Nat) (h : j < g.blocks.length) (hk : k < (tg g.blocks[j].last).length) (ht : (tg g.blocks[j].last)[k] < g.blocks.length) :
  (D.Ref.edges (toF g) ((tg g.blocks[j].last)[k] : Int))[(edges g.blocks).places j k]? = some ((j : Int), (k : Int)) := by
 obtain ⟨A, B, h1, h2, _, _, _⟩ := place_split g.blocks j k h hk ht
 rw [refEdges, h1, List.filter_append, List.filter_cons_of_pos (by simp), List.map_append, List.map_cons, h2]
 have e : into (tg g.blocks[j].last)[k] A = (List.map (fun (e : Nat × Nat × Nat) => ((e.1 : Int), (e.2.1 : Int))) (A.filter fun e => e.2.2 == (tg g.blocks[j].last)[k])).length := by
  rw [List.length_map, <- List.countP_eq_length_filter]; rfl
 rw [e, List.getElem?_append_right (Nat.le_refl _), Nat.sub_self]
 rfl
theorem filter_split {α : Type} (p : α -> Bool) : ∀ (L : List α) (n : Nat) (e : α), (L.filter p)[n]? = some e -> ∃ A B, L = A ++ e :: B /\ A.countP p = n /\ p e = true
 | [], n, e, h => by simp at h
 | x :: L, n, e, h => by
  by_cases hp : p x = true
  ·rw [List.filter_cons_of_pos hp] at h
   match n, h with
   | 0, h =>
    simp only [List.getElem?_cons_zero, Option.some.injEq] at h
    subst h
    exact ⟨[], L, rfl, rfl, hp⟩
   | n + 1, h =>
    rw [List.getElem?_cons_succ] at h
    obtain ⟨A, B, h1, h2, h3⟩ := filter_split p L n e h
    exact ⟨x :: A, B, by rw [h1]; rfl, by rw [List.countP_cons_of_pos hp, h2], h3⟩
  ·rw [List.filter_cons_of_neg hp] at h
   obtain ⟨A, B, h1, h2, h3⟩ := filter_split p L n e h
   exact ⟨x :: A, B, by rw [h1]; rfl, by rw [List.countP_cons_of_neg hp, h2], h3⟩
theorem split_unique {α : Type} {A B A' B' : List α} {e e' : α} (h : A ++ e :: B = A' ++ e' :: B') (hA : e' ∉ A) (hB : e' ∉ B) : A = A' := by
 rcases List.append_eq_append_iff.1 h with ⟨C, h1, h2⟩ | ⟨C, h1, h2⟩
 ·cases C with
  | nil => simpa using h1.symm
  | cons c C =>
   injection h2 with _ h3
   exact absurd (by rw [h3]; simp) hB
 ·cases C with
  | nil => simpa using h1
  | cons c C =>
   injection h2 with h3 _
   exact absurd (by rw [h1, h3]; simp) hA
theorem edgesTo_mem (i : Nat) : ∀ (l : List Nat) (m : Nat), ∀ e ∈ edgesTo i l m, ∃ k, ∃ hk : k < l.length, e = (i, m + k, l[k])
 | [], m, e, he => by simp [edgesTo] at he
 | a :: l, m, e, he => by
  rcases List.mem_cons.1 he with rfl | he
  ·exact ⟨0, by simp, rfl⟩
  ·obtain ⟨k, hk, h⟩ := edgesTo_mem i l (m + 1) e he
   exact ⟨k + 1, by simpa using hk, by rw [h]; simp; omega⟩
theorem edgesGo_mem : ∀ (l : List Blk) (i : Nat), ∀ e ∈ edgesGo l i, ∃ a, ∃ ha : a < l.length, ∃ k, ∃ hk : k < (tg l[a].last).length, e = (i + a, k, (tg l[a].last)[k])
 | [], i, e, he => by simp [edgesGo] at he
 | b :: l, i, e, he => by
  rcases List.mem_append.1 he with he | he
  ·obtain ⟨k, hk, h⟩ := edgesTo_mem i _ 0 e he
   exact ⟨0, by simp, k, hk, by rw [h]; simp⟩
  ·obtain ⟨a, ha, k, hk, h⟩ := edgesGo_mem l (i + 1) e he
   exact ⟨a + 1, by simpa using ha, k, hk, by rw [h]; simp; omega⟩
theorem edge_at (g : Fn) (t : Nat) (ht : t < g.blocks.length) (n : Nat) (hn : n < (D.Ref.edges (toF g) (t : Int)).length) :
  ∃ a, ∃ ha : a < g.blocks.length, ∃ k, ∃ hk : k < (tg g.blocks[a].last).length, (tg g.blocks[a].last)[k] = t /\ (D.Ref.edges (toF g) (t : Int))[n] = ((a : Int), (k : Int)) /\ (edges g.blocks).places a k = n := by
 have hg : (D.Ref.edges (toF g) (t : Int))[n]? = some ((D.Ref.edges (toF g) (t : Int))[n]) := List.getElem?_eq_getElem hn
 generalize (D.Ref.edges (toF g) (t : Int))[n] = q at hg ⊢
 rw [refEdges, List.getElem?_map] at hg
 cases he : ((edgesGo g.blocks 0).filter fun e => e.2.2 == t)[n]? with
 | none => rw [he] at hg; cases hg
 | some e =>
  rw [he] at hg
  simp only [Option.map_some, Option.some.injEq] at hg
  obtain ⟨A', B', h1, h2, h3⟩ := filter_split _ _ n e he
  obtain ⟨a, ha, k, hk, hek⟩ := edgesGo_mem g.blocks 0 e (by rw [h1]; simp)
  rw [Nat.zero_add] at hek
  subst hek
  have htk : (tg g.blocks[a].last)[k] = t := by simpa using h3
  obtain ⟨A, B, k1, k2, _, k4, k5⟩ := place_split g.blocks a k ha hk (by rw [htk]; exact ht)
  have hAA : A = A' := split_unique (k1.symm.trans h1) (fun h => k4 _ h ⟨rfl, rfl⟩) (fun h => k5 _ h ⟨rfl, rfl⟩)
  refine ⟨a, ha, k, hk, htk, hg.symm, ?_⟩
  rw [k2, htk, hAA]
  exact h2
/-! All together. -/
theorem vals_iff (l : List Val) : ∀ R : List Bool, ValsOk R l ↔ ∀ k (h : k < l.length), hasAll (addAll R (l.take k)) (useT l[k].thing) = true := by
 induction l with
 | nil => intro R; exact ⟨fun _ k h => by simp at h, fun _ => trivial⟩
 | cons v l ih =>
  intro R
  constructor
  ·intro h k hk
   match k, hk with
   | 0, _ => exact h.1
   | k + 1, hk => exact (ih _).1 h.2 k (by simpa using hk)
  ·intro h
   exact ⟨h 0 (by simp), (ih _).2 fun k hk => h (k + 1) (by simpa using hk)⟩
theorem hasAll_iff (R : List Bool) (of : List Nat) : hasAll R of = true ↔ ∀ x ∈ of, R.getD x false = true := by
 unfold hasAll
 rw [List.all_eq_true]
structure RightR (g : Fn) : Prop where
 once : Once noNumber g.blocks
 goes : ∀ b ∈ g.blocks, ∀ t ∈ tg b.last, 1 <= t /\ t < g.blocks.length
 reached : ∀ i, i < g.blocks.length -> D.Ref.Reach (toF g) (-1) i
 uses : ∀ i (h : i < (toF g).Blocks.length), D.Ref.Uses (toF g) i h
theorem uses_iff (g : Fn) (hB : Base g) (hW : Wf g.blocks) (hwf : WFF g) : (PhisOk g.blocks /\ ∀ A, A.length = g.blocks.length -> All60 A -> Iter g.blocks (startTo g.blocks.length g.blocks.length) A -> AheadOk g.blocks A) ↔
  ∀ i (h : i < (toF g).Blocks.length), D.Ref.Uses (toF g) i h := by
 obtain ⟨A, hit⟩ := iter_ends g.blocks hB.num hB.goes _ _ (start_good g.blocks hB.pos) (Nat.le_refl _)
 obtain ⟨hG, _⟩ := iter_good hB.num hB.goes hit (start_good g.blocks hB.pos)
 have hAl := hG.len
 have hA6 := hG.all
 have hmade := made_iff g hB hAl hA6 hit
 have hAget : ∀ j (h : j < A.length), A[j] = A.getD j [] := fun j h => by rw [List.getD_eq_getElem?_getD, List.getElem?_eq_getElem h]; rfl
 have hend : ∀ j (hj : j < g.blocks.length) x, x < 60 -> ((addAll (A.getD j []) g.blocks[j].values).getD x false = true ↔ D.Ref.Made (toF g) (x : Int) j (g.blocks[j].values.length : Nat)) := fun j hj x hx => by
  have := hmade j hj g.blocks[j].values.length (Nat.le_refl _) x hx
  rw [List.take_length] at this
  exact this
 constructor
 ·rintro ⟨hP, hAh⟩ i hi
  have hi' : i < g.blocks.length := by rw [toF_len] at hi; exact hi
  have hOk := hAh A hAl hA6 hit
  obtain ⟨hv, hl, _⟩ := hOk i hi' (by omega)
  rw [hAget i (by omega)] at hv hl
  unfold D.Ref.Uses
  rw [toF_get g i hi']
  refine ⟨fun k hk => ?_, ?_⟩
  ·have hk' : k < g.blocks[i].values.length := by simpa [toB_values] using hk
   have hvk := (vals_iff _ _).1 hv k hk'
   have e : (toB g.blocks[i]).Values[k] = toV g.blocks[i].values[k] := by simp [toB_values]
   rw [e]
   have hPk := hP i hi' _ (List.getElem_mem hk')
   have hvm := List.getElem_mem hk'
   have hwt := ((hwf.blocks _ (List.getElem_mem hi')).vals _ hvm).2
   generalize g.blocks[i].values[k] = v at *
   obtain ⟨num, thing⟩ := v
   cases thing with
   | phi of =>
    obtain ⟨h1, h2⟩ := hPk of rfl
    refine ⟨fun _ => ⟨by rw [refEdges_len g i hi', <- h2]; simp [toV], h1⟩, fun j' hj' => ⟨fun _ => ?_, fun h => absurd rfl h⟩⟩
    have hj2 : j' < of.length := by simpa [toV] using hj'
    have hj3 : j' < (D.Ref.edges (toF g) (i : Int)).length := by rw [refEdges_len g i hi', <- h2]; exact hj2
    obtain ⟨a, ha, q, hq, hqt, hed, hpl⟩ := edge_at g i hi' j' hj3
    refine ⟨hj3, a, by rw [toF_len]; exact ha, by rw [hed], ?_⟩
    obtain ⟨_, _, hpm⟩ := hOk a ha (by omega)
    have hpm' := hpm q hq (by rw [hqt]; exact hi')
    rw [hpl, hAget a (by omega)] at hpm'
    simp only [hqt] at hpm'
    obtain ⟨h3, h4, h5⟩ := hpm' _ hvm of rfl
    have e2 : (toV ⟨num, .phi of⟩).Args[j'] = ((of[j'] : Nat) : Int) := by simp [toV]
    rw [e2]
    have := (hend a ha of[j'] h4).1 h5
    rw [toF_get g a ha]
    simpa [toB_values] using this
   | arg n => exact ⟨fun h => absurd h (by show ¬ Ref.sArg = Ref.sPhi; decide), fun j' hj' => by simp [toV] at hj'⟩
   | const n => exact ⟨fun h => absurd h (by show ¬ Ref.sConst = Ref.sPhi; decide), fun j' hj' => by simp [toV] at hj'⟩
   | apply q of =>
    have hne : nameOf q ≠ Ref.sPhi := (D.Ref.arity_name q hwt.1).2.2.2.2.1
    refine ⟨fun h => absurd h hne, fun j' hj' => ⟨fun h => absurd h hne, fun _ => ?_⟩⟩
    have hj2 : j' < of.length := by simpa [toV] using hj'
    have e2 : (toV ⟨num, .apply q of⟩).Args[j'] = ((of[j'] : Nat) : Int) := by simp [toV]
    rw [e2]
    exact (hmade i hi' k (by omega) of[j'] (hwt.2.2 _ (List.getElem_mem hj2))).1 ((hasAll_iff _ _).1 hvk of[j'] (List.getElem_mem hj2))
  ·have hL := (hwf.blocks _ (List.getElem_mem hi')).last
   rw [hasAll_iff] at hl
   have hen := hend i hi'
   have hll : (toB g.blocks[i]).Values.length = g.blocks[i].values.length := by simp [toB_values]
   rw [hll]
   cases hz : g.blocks[i].last with
   | ret v =>
    rw [hz] at hl hL
    have e : (toB g.blocks[i]).V = (v : Int) := by simp [toB, mkBlk, toL, hz]
    rw [e]
    exact Or.inl ((hen v hL).1 (hl v (by simp [useL])))
   | jump t =>
    have e : (toB g.blocks[i]).Last = Ref.sJump := by simp [toB, mkBlk, toL, hz]
    exact Or.inr e
   | ifs v x y =>
    rw [hz] at hl hL
    have e : (toB g.blocks[i]).V = (v : Int) := by simp [toB, mkBlk, toL, hz]
    rw [e]
    exact Or.inl ((hen v hL.1).1 (hl v (by simp [useL])))
 ·intro hU
  have hP : PhisOk g.blocks := by
   intro j hj v hv of e
   obtain ⟨k, hk, rfl⟩ := List.getElem_of_mem hv
   have h := (hU j (by rw [toF_len]; exact hj)).1 k (by rw [toF_get g j hj]; simpa [toB_values] using hk)
   have e1 : ((toF g).Blocks[j]'(by rw [toF_len]; exact hj)).Values[k]'(by rw [toF_get g j hj]; simpa [toB_values] using hk) = toV g.blocks[j].values[k] := by simp [toF_get g j hj, toB_values]
   rw [e1] at h
   generalize g.blocks[j].values[k] = v at *
   obtain ⟨num, thing⟩ := v
   simp only at e
   subst e
   obtain ⟨h1, h2⟩ := h.1 rfl
   refine ⟨h2, ?_⟩
   rw [refEdges_len g j hj] at h1
   rw [<- h1]; simp [toV]
  refine ⟨hP, fun A' _ _ hit' => ?_⟩
  rw [<- Iter.det hit hit']
  intro j hj hjA
  have hUj := hU j (by rw [toF_len]; exact hj)
  rw [hAget j hjA]
  refine ⟨(vals_iff _ _).2 fun k hk => ?_, ?_, fun k hk ht => ?_⟩
  ·rw [hasAll_iff]
   intro x hx
   have h := hUj.1 k (by rw [toF_get g j hj]; simpa [toB_values] using hk)
   have e1 : ((toF g).Blocks[j]'(by rw [toF_len]; exact hj)).Values[k]'(by rw [toF_get g j hj]; simpa [toB_values] using hk) = toV g.blocks[j].values[k] := by simp [toF_get g j hj, toB_values]
   rw [e1] at h
   have hvm := List.getElem_mem hk
   have hwt := ((hwf.blocks _ (List.getElem_mem hj)).vals _ hvm).2
   have hmk := hmade j hj k (by omega)
   generalize g.blocks[j].values[k] = v at *
   obtain ⟨num, thing⟩ := v
   cases thing with
   | phi of => simp [useT] at hx
   | arg n => simp [useT] at hx
   | const n => simp [useT] at hx
   | apply q of =>
    have hne : nameOf q ≠ Ref.sPhi := (D.Ref.arity_name q hwt.1).2.2.2.2.1
    obtain ⟨j', hj', rfl⟩ := List.getElem_of_mem hx
    have hj2 : j' < of.length := hj'
    have h2 := (h.2 j' (by simpa [toV] using hj2)).2 hne
    have e2 : (toV ⟨num, .apply q of⟩).Args[j']'(by simpa [toV] using hj2) = ((of[j'] : Nat) : Int) := by simp [toV]
    rw [e2] at h2
    exact (hmk of[j'] (hwt.2.2 _ (List.getElem_mem hj2))).2 h2
  ·rw [hasAll_iff]
   intro x hx
   have hL := (hwf.blocks _ (List.getElem_mem hj)).last
   have h := hUj.2
   rw [toF_get g j hj] at h
   have hll : (toB g.blocks[j]).Values.length = g.blocks[j].values.length := by simp [toB_values]
   rw [hll] at h
   have hen := hend j hj
   cases hz : g.blocks[j].last with
   | ret v =>
    rw [hz] at hx hL
    have e : (toB g.blocks[j]).V = (v : Int) := by simp [toB, mkBlk, toL, hz]
    have e' : (toB g.blocks[j]).Last = Ref.sRet := by simp [toB, mkBlk, toL, hz]
    rw [e, e'] at h
    have hxv : x = v := by simpa [useL] using hx
    subst hxv
    rcases h with h | h
    ·exact (hen x hL).2 h
    ·exact absurd h (by decide)
   | jump t => rw [hz] at hx; simp [useL] at hx
   | ifs v a b =>
    rw [hz] at hx hL
    have e : (toB g.blocks[j]).V = (v : Int) := by simp [toB, mkBlk, toL, hz]
    have e' : (toB g.blocks[j]).Last = Ref.sIf := by simp [toB, mkBlk, toL, hz]
    rw [e, e'] at h
    have hxv : x = v := by simpa [useL] using hx
    subst hxv
    rcases h with h | h
    ·exact (hen x hL.1).2 h
    ·exact absurd h (by decide)
  ·intro v hv of e
   obtain ⟨_, h2⟩ := hP _ ht v hv of e
   have hlt := place_lt g.blocks j k hj hk ht
   have hpl : (edges g.blocks).places j k < of.length := by omega
   have h60 := hW.phis _ (List.getElem_mem ht) v hv of e _ (List.getElem_mem hpl)
   refine ⟨hpl, h60, ?_⟩
   obtain ⟨m, hm, rfl⟩ := List.getElem_of_mem hv
   have hb := edge_back g j k hj hk ht
   have h := (hU _ (by rw [toF_len]; exact ht)).1 m (by rw [toF_get g _ ht]; simpa [toB_values] using hm)
   have e1 : ((toF g).Blocks[(tg g.blocks[j].last)[k]]'(by rw [toF_len]; exact ht)).Values[m]'(by rw [toF_get g _ ht]; simpa [toB_values] using hm) = toV g.blocks[(tg g.blocks[j].last)[k]].values[m] := by simp [toF_get g _ ht, toB_values]
   rw [e1] at h
   have hen := hend j hj of[(edges g.blocks).places j k] h60
   generalize g.blocks[(tg g.blocks[j].last)[k]].values[m] = v at *
   obtain ⟨num, thing⟩ := v
   simp only at e
   subst e
   obtain ⟨h3, a, ha, h4, h5⟩ := (h.2 ((edges g.blocks).places j k) (by simpa [toV] using hpl)).1 rfl
   have h6 : (D.Ref.edges (toF g) ((tg g.blocks[j].last)[k] : Int))[(edges g.blocks).places j k] = ((j : Int), (k : Int)) := by
    rw [List.getElem?_eq_getElem h3] at hb
    exact Option.some.inj hb
   rw [h6] at h4
   have haj : a = j := by simp at h4; omega
   subst haj
   have e2 : (toV ⟨num, .phi of⟩).Args[(edges g.blocks).places a k]'(by simpa [toV] using hpl) = ((of[(edges g.blocks).places a k] : Nat) : Int) := by simp [toV]
   rw [e2, toF_get g a hj] at h5
   exact hen.2 (by simpa [toB_values] using h5)
theorem clip_goes {g : Fn} (hm : g.blocks.length <= 8) : (∀ b ∈ (clip g).blocks, ∀ t ∈ tg b.last, 1 <= t /\ t < (clip g).blocks.length) ↔ ∀ b ∈ g.blocks, ∀ t ∈ tg b.last, 1 <= t /\ t < g.blocks.length := by
 have hlen : (clip g).blocks.length = g.blocks.length := by simp [clip]
 rw [hlen]
 have key : ∀ b : Blk, (∀ t ∈ tg (clipB b).last, 1 <= t /\ t < g.blocks.length) ↔ ∀ t ∈ tg b.last, 1 <= t /\ t < g.blocks.length := by
  rintro ⟨vs, z⟩
  cases z with
  | ret v => exact Iff.rfl
  | jump t =>
   simp only [clipB, clipL, tg, List.mem_singleton, forall_eq]
   omega
  | ifs v x y =>
   simp only [clipB, clipL, tg, List.mem_cons, List.not_mem_nil, or_false, forall_eq_or_imp, forall_eq]
   omega
 constructor
 ·intro h b hb
  exact (key b).1 (h (clipB b) (List.mem_map.2 ⟨b, hb, rfl⟩))
 ·intro h b hb
  obtain ⟨b0, hb0, rfl⟩ := List.mem_map.1 hb
  exact (key b0).2 (h b0 hb0)
theorem clip_eq {g : Fn} (hm : g.blocks.length <= 8) (h : ∀ b ∈ g.blocks, ∀ t ∈ tg b.last, 1 <= t /\ t < g.blocks.length) : clip g = g := by
 obtain ⟨args, bks⟩ := g
 unfold clip
 simp only at h hm ⊢
 congr 1
 have : ∀ b ∈ bks, clipB b = b := by
  rintro ⟨vs, z⟩ hb
  have := h _ hb
  cases z with
  | ret v => rfl
  | jump t =>
   have := this t (by simp [tg])
   simp only [clipB, clipL]
   rw [Nat.min_eq_left (by omega)]
  | ifs v x y =>
   have h1 := this x (by simp [tg])
   have h2 := this y (by simp [tg])
   simp only [clipB, clipL]
   rw [Nat.min_eq_left (by omega), Nat.min_eq_left (by omega)]
 rw [List.map_congr_left this, List.map_id']
theorem right_iff (g : Fn) (hwf : WFF g) (hW : Wf (clip g).blocks) : Right (clip g).blocks ↔ RightR g := by
 have hm := hwf.most
 by_cases hg : ∀ b ∈ g.blocks, ∀ t ∈ tg b.last, 1 <= t /\ t < g.blocks.length
 ·rw [clip_eq hm hg] at hW ⊢
  have hnum : ∀ b ∈ g.blocks, ∀ v ∈ b.values, v.num < 60 := fun b hb v hv => ((hW.small b hb).2.1 v hv).1
  have hg2 : ∀ b ∈ g.blocks, ∀ t ∈ tg b.last, t < g.blocks.length := fun b hb t ht => (hg b hb t ht).2
  have hre := reached_iff g.blocks hm hW.some hg2
  constructor
  ·intro h
   have hr := hre.1 h.reached
   have hB : Base g := ⟨hW.some, hnum, h.once, hg, hr⟩
   exact ⟨h.once, hg, fun i hi => (reach_iff g i).2 (hr i hi), (uses_iff g hB hW hwf).1 ⟨h.phis, h.ahead⟩⟩
  ·intro h
   have hr : ∀ i, i < g.blocks.length -> Reached g.blocks i := fun i hi => (reach_iff g i).1 (h.reached i hi)
   have hB : Base g := ⟨hW.some, hnum, h.once, hg, hr⟩
   obtain ⟨h1, h2⟩ := (uses_iff g hB hW hwf).2 h.uses
   exact ⟨hW.most, hW.some, hW.small, h.once, hg, hre.2 hr, h1, h2⟩
 ·constructor
  ·intro h
   exact absurd ((clip_goes hm).1 h.goes) hg
  ·intro h
   exact absurd h.goes hg
theorem ValuesOf.det {a : Nat} {b : Bool} {s : List UInt8} {o o' : Option (List Val × List UInt8)} (h : ValuesOf a b s o) (h' : ValuesOf a b s o') (hs : o.isSome = true) (hs' : o'.isSome = true) : o = o' := by
 induction h generalizing o' with
 | done h1 => cases h' with
  | done => rfl
  | more g1 => rw [h1] at g1; cases g1
  | _ => simp at hs'
 | more h1 h2 h3 h4 _ h6 _ ih => cases h' with
  | done g1 => rw [h1] at g1; cases g1
  | more _ g2 g3 g4 _ g6 g7 =>
   rw [h2] at g2
   cases g2
   rw [h3] at g3
   cases g3
   cases h4.det g4
   rw [h6] at g6
   cases g6
   rw [ih g7 (by simpa using hs) (by simpa using hs')]
  | _ => simp at hs'
 | _ => simp at hs
theorem BlockIs.det {a n : Nat} {s r r' : List UInt8} {b b' : Blk} (h : BlockIs a n s b r) (h' : BlockIs a n s b' r') : b = b' /\ r = r' := by
 cases h with
 | mk h1 h2 h3 h4 h5 h6 h7 => cases h' with
  | mk g1 g2 g3 g4 g5 g6 g7 =>
   rw [h1] at g1
   cases g1
   rw [h2] at g2
   cases g2
   rw [h3] at g3
   cases g3
   rw [h4] at g4
   cases g4
   cases h5.det g5 rfl rfl
   rw [h6] at g6
   cases g6
   rw [h7] at g7
   cases g7
   exact ⟨rfl, rfl⟩
theorem BlocksIs.det {a n : Nat} {s : List UInt8} {l l' : List Blk} (h : BlocksIs a n s l) (h' : BlocksIs a n s l') : l = l' := by
 induction h generalizing l' with
 | nil => cases h' with
  | nil => rfl
  | cons h => exact absurd rfl h
 | cons h1 h2 _ ih => cases h' with
  | nil => exact absurd rfl h1
  | cons _ g2 g3 =>
   obtain ⟨rfl, rfl⟩ := h2.det g2
   rw [ih g3]
theorem FnIs.det {s : List UInt8} {f f' : Fn} (h : FnIs s f) (h' : FnIs s f') : f = f' := by
 cases h with
 | mk h1 h2 h3 h4 h5 => cases h' with
  | mk g1 g2 g3 g4 g5 =>
   rw [h1] at g1
   cases g1
   rw [h2] at g2
   cases g2
   rw [h3] at g3
   cases g3
   obtain ⟨rfl, rfl⟩ := h4.det g4
   rw [h5.det g5]
theorem ErrOf.det {s : List UInt8} {a b : Int} (h : ErrOf s a) (h' : ErrOf s b) : a = b := by
 cases h with
 | text h =>
  cases h' with
  | text h' => rfl
  | form h1 h2 _ =>
   rcases h with h | h
   ·omega
   ·exact absurd h2 (h _)
 | form h1 h2 _ =>
  cases h' with
  | text h =>
   rcases h with h | h
   ·omega
   ·exact absurd h2 (h _)
  | form => rfl
theorem ErrOf.not {s : List UInt8} {a : Int} {f : Fn} (h : ErrOf s a) (hs : s.length <= 1500) (hf : FnIs s f) (hr : Right f.blocks) : False := by
 cases h with
 | text h =>
  rcases h with h | h
  ·omega
  ·exact h _ hf
 | form h1 h2 h3 =>
  rw [FnIs.det h2 hf] at h3
  exact h3 hr
end Go.Proofs.YtedkjanogjglkaaGreatDoor.Code
namespace Go.Proofs.YtedkjanogjglkaaGreatDoor
open Go.RowKit
theorem Code.wff_of {s : List UInt8} {f : Code.Fn} (h : Code.FnIs s f) (hs : s.length <= 1500) (hr : Code.Right f.blocks) : Code.WFF f := by
 obtain ⟨g, rfl, h2, rfl⟩ := Code.fnIs_inv h
 have hrr := (Code.right_iff g h2 (Code.wf_of h2 hs)).1 hr
 rw [Code.clip_eq h2.most hrr.goes]
 exact h2
open Go.Proofs.YtedkjanogjglkaaGreatDoor.Code (RTree Nm RSt Prs CRule Pair)
namespace Code
theorem once_onceN : ∀ {bks : List Blk} {R : List Bool}, R.length = 60 -> (∀ b ∈ bks, ∀ v ∈ b.values, v.num < 60) -> Once R bks -> OnceN bks
 | [], _, _, _, _ => by simp [OnceN]
 | b :: l, R, hR, hn, ho => by
  have hR' : (addAll R b.values).length = 60 := by rw [addAll_length]; exact hR
  have hl : ∀ c ∈ l, ∀ v ∈ c.values, v.num < 60 := fun y hy => hn y (List.mem_cons_of_mem _ hy)
  have ih := once_onceN hR' hl ho.2
  unfold OnceN at *
  rw [List.flatMap_cons, List.map_append, List.nodup_append]
  refine ⟨ho.1.1, ih, fun a ha c hc e => ?_⟩
  subst e
  obtain ⟨v, hv, hva⟩ := List.mem_map.1 hc
  obtain ⟨k, hk, hvk⟩ := List.mem_flatMap.1 hv
  have h1 : a ∈ nums k.values := List.mem_map.2 ⟨v, hvk, hva⟩
  have h3 := once_first hR' hl ho.2 k hk a h1
  have h4 := (addAll_get b.values R a (fun v hv => by rw [hR]; exact hn b List.mem_cons_self v hv)).2 (Or.inr ha)
  rw [h3] at h4; cases h4
theorem fold_range : ∀ (L : List (Nat × Nat × Nat)) (E : Edges) (n : Nat), (∀ x ∈ E.counts, x <= n) -> ∀ x ∈ (L.foldl Edges.add E).counts, x <= n + L.length
 | [], E, n, h => by simpa using h
 | e :: L, E, n, h => by
  intro x hx
  rw [List.foldl_cons] at hx
  have := fold_range L (E.add e) (n + 1) (counts_range E n h e) x hx
  simp only [List.length_cons]
  omega
theorem edgesTo_length (i : Nat) : ∀ (l : List Nat) (k : Nat), (edgesTo i l k).length = l.length
 | [], _ => rfl
 | t :: r, k => by simp [edgesTo, edgesTo_length i r]
theorem edgesGo_length : ∀ (l : List Blk) (i : Nat), (edgesGo l i).length <= l.length * 2
 | [], _ => by simp [edgesGo]
 | b :: r, i => by
  simp only [edgesGo, List.length_append, edgesTo_length, List.length_cons]
  have := tg_length b.last
  have := edgesGo_length r (i + 1)
  omega
theorem edges_few (bks : List Blk) (j : Nat) : (edges bks).counts.getD j 0 <= bks.length * 2 := by
 rw [List.getD_eq_getElem?_getD]
 cases h : (edges bks).counts[j]? with
 | none => simp
 | some x =>
  have hm := List.mem_of_getElem? h
  have h1 := fold_range (edgesGo bks 0) ⟨List.replicate bks.length 0, fun _ _ => 0⟩ 0 (by simp) x hm
  have h2 := edgesGo_length bks 0
  simp only [Option.getD_some]
  omega
theorem right_fine {f : Fn} (hw : WFF f) (hr : Right f.blocks) : Fine f.blocks := by
 have hnum : ∀ b ∈ f.blocks, ∀ v ∈ b.values, v.num < 60 := fun b hb v hv => ((hw.blocks b hb).vals v hv).1
 have honce : OnceN f.blocks := once_onceN (by rfl) hnum hr.once
 have hvals : ∀ b ∈ f.blocks, ∀ v ∈ b.values, NiceV v := by
  intro b hb v hv
  obtain ⟨h1, h2⟩ := (hw.blocks b hb).vals v hv
  refine ⟨h1, ?_⟩
  cases ht : v.thing with
  | phi of =>
   rw [ht] at h2
   obtain ⟨j, hj, rfl⟩ := List.getElem_of_mem hb
   obtain ⟨_, h3⟩ := hr.phis j hj v hv of ht
   have h4 := edges_few f.blocks j
   have h5 := hw.most
   exact ⟨by omega, h2⟩
  | arg k =>
   rw [ht] at h2
   have h3 := hw.args
   have h4 : k < f.args := h2
   show k < 1000
   omega
  | const c => rw [ht] at h2; exact h2
  | apply k of => rw [ht] at h2; exact h2
 refine ⟨⟨hw.most, fun b hb => ?_, hvals, fun b hb => ?_⟩, honce⟩
 ·have h1 : (b.values.map Val.num).Nodup := List.Nodup.sublist ((flat_sub hb).map _) honce
  have h2 := nodup_short (n := 60) h1 (fun x hx => by
   obtain ⟨v, hv, rfl⟩ := List.mem_map.1 hx
   exact hnum b hb v hv)
  simp only [List.length_map] at h2
  omega
 ·have h1 := (hw.blocks b hb).last
  have h2 := hr.goes b hb
  have h3 := hw.most
  cases hl : b.last with
  | ret v => rw [hl] at h1; exact h1
  | jump t =>
   rw [hl] at h2
   have := h2 t (by simp [tg])
   show t < 1000
   omega
  | ifs v x y =>
   rw [hl] at h1 h2
   have a1 := h2 x (by simp [tg])
   have a2 := h2 y (by simp [tg])
   refine ⟨h1.1, ?_, ?_⟩ <;> omega
theorem names_kids {f : List UInt8 -> Option (RTree × List UInt8)} {c : Nat} (h : ∀ s t r, f s = some (t, r) -> t.names.length <= c) : ∀ (n : Nat) (s : List UInt8) (l : List RTree) (r : List UInt8), kidsP f n s = some (l, r) -> (namesAll l).length <= n * c
 | 0, s, l, r, e => by
  simp only [kidsP, Option.some.injEq, Prod.mk.injEq] at e
  rw [<- e.1]; simp [namesAll]
 | n + 1, s, l, r, e => by
  simp only [kidsP, Option.bind_eq_some_iff, Option.map_eq_some_iff] at e
  obtain ⟨a, _, p, hp, q, hq, e⟩ := e
  simp only [Prod.mk.injEq] at e
  rw [<- e.1, namesAll, List.length_append, Nat.succ_mul]
  have := h _ _ _ hp
  have := names_kids h n _ _ _ hq
  omega
theorem names_inner {f : List UInt8 -> Option (RTree × List UInt8)} {c : Nat} (h : ∀ s t r, f s = some (t, r) -> t.names.length <= c) (s : List UInt8) (t : RTree) (r : List UInt8) (e : innerP f .op s = some (t, r)) : t.names.length <= 2 * c := by
 simp only [innerP, Option.bind_eq_some_iff, Option.map_eq_some_iff] at e
 obtain ⟨k, hk, p, hp, q, _, e⟩ := e
 simp only [Prod.mk.injEq] at e
 rw [<- e.1, RTree.names]
 have h1 := names_kids h _ _ _ _ hp
 have h2 := opOf_range k (opNamed_lt hk)
 have h3 : opOf k * c <= 2 * c := Nat.mul_le_mul_right _ (by omega)
 omega
theorem names_atom {s : List UInt8} {t : RTree} {r : List UInt8} (h : atomP s = some (t, r)) : t.names.length <= 1 := by
 have hd := atomP_depth h
 cases t <;> simp_all [RTree.names, RTree.depth]
theorem names_tree : ∀ (d : Nat) (s : List UInt8) (t : RTree) (r : List UInt8), treeP false d s = some (t, r) -> t.names.length <= 2 ^ d
 | 0, s, t, r, h => by
  simp only [treeP, Bool.false_eq_true, false_and, if_false] at h
  split at h
  ·cases h
  ·exact names_atom h
 | d + 1, s, t, r, h => by
  simp only [treeP, Bool.false_eq_true, if_false] at h
  split at h
  ·have := names_inner (names_tree d) _ _ _ h
   rw [Nat.pow_succ]; omega
  ·have := names_atom h
   have := Nat.pow_pos (n := d + 1) (show 0 < 2 by omega)
   omega
theorem slots_few : ∀ (l : List Nm) (st st' : RSt), slots bindS st l = some st' -> st'.names.length <= st.names.length + l.length
 | [], st, st', h => by
  simp only [slots, Option.some.injEq] at h; subst h; simp
 | p :: l, st, st', h => by
  simp only [slots, Option.bind_eq_some_iff] at h
  obtain ⟨s1, h1, h2⟩ := h
  have ih := slots_few l s1 st' h2
  have hb : s1.names.length <= st.names.length + 1 := by
   unfold bindS at h1
   split at h1
   ·split at h1
    ·simp only [Option.some.injEq] at h1; subst h1; omega
    ·cases h1
   ·simp only [Option.some.injEq] at h1; subst h1; simp
  simp only [List.length_cons]
  omega
theorem lineS_few {s : List UInt8} {n r : RTree} {ns : List Nm} (h : lineS s = .ok (n, r, ns)) : ns.length <= 16 := by
 have h1 := lineS_rule h
 have h2 := (lineS_of s).2 n r ns h
 have h3 := slots_few _ _ _ h1.slots
 simp only [List.length_nil, Nat.zero_add] at h3
 have h4 : n.names.length <= 16 := by
  cases h2 with
  | ok hL _ _ _ _ _ =>
   unfold lineP at hL
   simp only [Option.bind_eq_some_iff] at hL
   obtain ⟨p, hp, a, _, q, _, hfin⟩ := hL
   split at hfin
   ·simp only [Option.some.injEq, Prod.mk.injEq] at hfin
    rw [<- hfin.1]
    unfold nodeP at hp
    simp only [Option.bind_eq_some_iff] at hp
    obtain ⟨s1, _, hp1⟩ := hp
    have := names_inner (names_tree 3) _ _ _ hp1
    omega
   ·cases hfin
 omega
end Code
theorem rulesS_in {n : Nat} {s : List UInt8} {o : Except (Nat × Int) (List CRule)} (h : Code.RulesS n s o) : ∀ l, o = .ok l -> (∀ R ∈ l, RuleIn R) /\ l.length <= s.length := by
 induction h with
 | done => intro l h; simp only [Except.ok.injEq] at h; subst h; simp
 | open_ _ _ => intro l h; cases h
 | idle h1 _ _ ih =>
  intro l h
  obtain ⟨a, b⟩ := ih l h
  have := (Code.nextOf_length h1).1
  exact ⟨a, by omega⟩
 | bad _ _ _ => intro l h; cases h
 | more h1 _ h3 _ ih =>
  rename_i o' _ _
  intro l h
  cases ho : o' with
  | error x => rw [ho] at h; cases h
  | ok l' =>
   rw [ho] at h
   simp only [Except.map, Except.ok.injEq] at h
   obtain ⟨a, b⟩ := ih l' ho
   have := (Code.nextOf_length h1).1
   subst h
   refine ⟨fun R hR => ?_, by simp only [List.length_cons]; omega⟩
   rcases List.mem_cons.1 hR with hR | hR
   ·subst hR
    exact ⟨Code.lineS_rule h3, Nat.le_trans (Code.lineS_few h3) (by omega)⟩
   ·exact a R hR
end Go.Proofs.YtedkjanogjglkaaGreatDoor
namespace Go.Proofs.YtedkjanogjglkaaGreatDoor.Code
open Go.Proofs.YtedkjanogjglkaaGreatDoor.D.Ref (toV toL toB toF mkBlk)
theorem reachB_iff (g : Fn) (b i : Nat) : D.Ref.Reach (toF g) (b : Int) i ↔ RB g.blocks b i := by
 constructor
 ·intro h S h0 hc
  refine h S h0 fun a ha t hS ht hne => ?_
  have ha' : a < g.blocks.length := by rw [toF_len] at ha; exact ha
  rw [toF_get g a ha', toB_to, mem_cast] at ht
  exact hc a ha' t hS ht (by omega)
 ·intro h S h0 hc
  refine h S h0 fun a ha t hS ht hne => ?_
  refine hc a (by rw [toF_len]; exact ha) t hS ?_ (by omega)
  rw [toF_get g a ha, toB_to, mem_cast]
  exact ht
theorem made_madeC (g : Fn) (hn : ∀ b ∈ g.blocks, ∀ v ∈ b.values, v.num < 60) (ho : Once noNumber g.blocks) (x j m : Nat) : D.Ref.Made (toF g) (x : Int) j (m : Int) ↔ MadeC g.blocks x j m := by
 have huq := once_uniq (once_onceN (R := noNumber) rfl hn ho)
 by_cases hex : ∃ b, ∃ hb : b < g.blocks.length, x ∈ nums g.blocks[b].values
 ·obtain ⟨b, hb, hxb⟩ := hex
  obtain ⟨k, hk, hkx, hpl, _⟩ := place_there g hn ho x b hb hxb
  have hat : AtP g.blocks x b k := ⟨hb, hk, hkx⟩
  unfold D.Ref.Made
  rw [hpl]
  constructor
  ·rintro ⟨_, h | ⟨h1, h2⟩⟩
   ·exact ⟨b, k, hat, Or.inl ⟨by have := h.1; simp at this; omega, by have := h.2; simp at this; exact this⟩⟩
   ·refine ⟨b, k, hat, Or.inr ⟨by simp at h1; omega, fun hd => h2 ⟨?_, (reachB_iff g b j).2 hd.2⟩⟩⟩
    have := hd.1
    simp; omega
  ·rintro ⟨a, q, ha, h⟩
   obtain ⟨rfl, rfl⟩ := huq _ _ _ _ _ hat ha
   refine ⟨by simp, ?_⟩
   rcases h with ⟨h1, h2⟩ | ⟨h1, h2⟩
   ·exact Or.inl ⟨by simp; omega, by simp; omega⟩
   ·refine Or.inr ⟨by simp; omega, fun hd => h2 ⟨?_, (reachB_iff g b j).1 hd.2⟩⟩
    have := hd.1
    simp at this; omega
 ·have hno : ∀ i (hi : i < g.blocks.length), x ∉ nums g.blocks[i].values := fun i hi h => hex ⟨i, hi, h⟩
  unfold D.Ref.Made
  rw [place_nowhere g x hno]
  constructor
  ·rintro ⟨h, _⟩
   simp at h
  ·rintro ⟨a, q, ⟨ha, hq, hx⟩, _⟩
   exact absurd (List.mem_map.2 ⟨_, List.getElem_mem hq, hx⟩) (hno a ha)
def waysIn (g : Fn) (i : Nat) : List Nat := (D.Ref.edges (toF g) (i : Int)).map fun p => p.1.toNat
theorem waysIn_at (g : Fn) (i : Nat) (hi : i < g.blocks.length) (n a : Nat) : (waysIn g i)[n]? = some a ↔ ∃ h : n < (D.Ref.edges (toF g) (i : Int)).length, (D.Ref.edges (toF g) (i : Int))[n].1 = (a : Int) := by
 unfold waysIn
 rw [List.getElem?_map, Option.map_eq_some_iff]
 constructor
 ·rintro ⟨p, hp, rfl⟩
  obtain ⟨h, rfl⟩ := List.getElem?_eq_some_iff.1 hp
  obtain ⟨c, _, q, _, _, he, _⟩ := edge_at g i hi n h
  exact ⟨h, by rw [he]; simp⟩
 ·rintro ⟨h, he⟩
  exact ⟨_, List.getElem?_eq_getElem h, by rw [he]; simp⟩
theorem uses_usesQ (g : Fn) (hwf : WFF g) (ho : Once noNumber g.blocks) : (∀ i (h : i < (toF g).Blocks.length), D.Ref.Uses (toF g) i h) ↔ UsesQ (waysIn g) g.blocks := by
 have hn : ∀ b ∈ g.blocks, ∀ v ∈ b.values, v.num < 60 := fun b hb v hv => ((hwf.blocks b hb).vals v hv).1
 have hmade := made_madeC g hn ho
 have hlen : ∀ i (hi : i < g.blocks.length), ((toF g).Blocks[i]'(by rw [toF_len]; exact hi)).Values.length = g.blocks[i].values.length := fun i hi => by rw [toF_get g i hi, toB_values, List.length_map]
 constructor
 ·intro hU
  refine ⟨fun i k b v of hb hv hth => ?_, fun i k b v o of hb hv hth x hx => ?_, fun i b hb x hx => ?_⟩
  ·obtain ⟨hi, rfl⟩ := List.getElem?_eq_some_iff.1 hb
   obtain ⟨hk, rfl⟩ := List.getElem?_eq_some_iff.1 hv
   have h := (hU i (by rw [toF_len]; exact hi)).1 k (by rw [hlen i hi]; exact hk)
   have e1 : ((toF g).Blocks[i]'(by rw [toF_len]; exact hi)).Values[k]'(by rw [hlen i hi]; exact hk) = toV g.blocks[i].values[k] := by simp [toF_get g i hi, toB_values]
   rw [e1] at h
   generalize g.blocks[i].values[k] = v at *
   obtain ⟨num, thing⟩ := v
   simp only at hth
   subst hth
   obtain ⟨h1, h2⟩ := h
   have h3 := h1 rfl
   refine ⟨h3.2, by have := h3.1; simp only [toV, List.length_map] at this; rw [waysIn, List.length_map]; exact this, fun n x a hx ha => ?_⟩
   obtain ⟨hnl, hna⟩ := (waysIn_at g i hi n a).1 ha
   obtain ⟨hxl, hxe⟩ := List.getElem?_eq_some_iff.1 hx
   obtain ⟨_, a', ha', he, hm⟩ := (h2 n (by simpa [toV] using hxl)).1 rfl
   rw [hna] at he
   have haa : a' = a := by omega
   subst haa
   have hal : a' < g.blocks.length := by rw [toF_len] at ha'; exact ha'
   refine ⟨g.blocks[a'], List.getElem?_eq_getElem hal, ?_⟩
   rw [<- hmade, <- hlen a' hal]
   have e2 : (toV ⟨num, .phi of⟩).Args[n]'(by simpa [toV] using hxl) = (x : Int) := by simp [toV, hxe]
   rw [e2] at hm
   exact hm
  ·obtain ⟨hi, rfl⟩ := List.getElem?_eq_some_iff.1 hb
   obtain ⟨hk, rfl⟩ := List.getElem?_eq_some_iff.1 hv
   have h := (hU i (by rw [toF_len]; exact hi)).1 k (by rw [hlen i hi]; exact hk)
   have e1 : ((toF g).Blocks[i]'(by rw [toF_len]; exact hi)).Values[k]'(by rw [hlen i hi]; exact hk) = toV g.blocks[i].values[k] := by simp [toF_get g i hi, toB_values]
   rw [e1] at h
   have hwt := ((hwf.blocks _ (List.getElem_mem hi)).vals _ (List.getElem_mem hk)).2
   generalize g.blocks[i].values[k] = v at *
   obtain ⟨num, thing⟩ := v
   simp only at hth
   subst hth
   have hne : nameOf o ≠ Ref.sPhi := (D.Ref.arity_name o hwt.1).2.2.2.2.1
   obtain ⟨n, hxl, hxe⟩ := List.getElem_of_mem hx
   have h2 := (h.2 n (by simpa [toV] using hxl)).2 hne
   have e2 : (toV ⟨num, .apply o of⟩).Args[n]'(by simpa [toV] using hxl) = (x : Int) := by simp [toV, hxe]
   rw [e2] at h2
   exact (hmade x i k).1 h2
  ·obtain ⟨hi, rfl⟩ := List.getElem?_eq_some_iff.1 hb
   have h := (hU i (by rw [toF_len]; exact hi)).2
   rw [hlen i hi] at h
   have e3 : ((toF g).Blocks[i]'(by rw [toF_len]; exact hi)) = toB g.blocks[i] := toF_get g i hi
   rw [e3] at h
   cases hz : g.blocks[i].last with
   | ret v =>
    rw [hz] at hx
    simp only [useL, List.mem_cons, List.not_mem_nil, or_false] at hx
    subst hx
    have e : (toB g.blocks[i]).V = (x : Int) := by simp [toB, mkBlk, toL, hz]
    have e' : (toB g.blocks[i]).Last ≠ Ref.sJump := by simp [toB, mkBlk, toL, hz]; decide
    rw [e] at h
    exact (hmade x i _).1 (h.resolve_right e')
   | jump t => rw [hz] at hx; simp [useL] at hx
   | ifs v p q =>
    rw [hz] at hx
    simp only [useL, List.mem_cons, List.not_mem_nil, or_false] at hx
    subst hx
    have e : (toB g.blocks[i]).V = (x : Int) := by simp [toB, mkBlk, toL, hz]
    have e' : (toB g.blocks[i]).Last ≠ Ref.sJump := by simp [toB, mkBlk, toL, hz]; decide
    rw [e] at h
    exact (hmade x i _).1 (h.resolve_right e')
 ·intro hQ i hi
  have hi' : i < g.blocks.length := by rw [toF_len] at hi; exact hi
  have hgi := List.getElem?_eq_getElem hi'
  unfold D.Ref.Uses
  rw [toF_get g i hi']
  refine ⟨fun k hk => ?_, ?_⟩
  ·have hk' : k < g.blocks[i].values.length := by simpa [toB_values] using hk
   have e : (toB g.blocks[i]).Values[k] = toV g.blocks[i].values[k] := by simp [toB_values]
   rw [e]
   have hgk := List.getElem?_eq_getElem hk'
   have hwt := ((hwf.blocks _ (List.getElem_mem hi')).vals _ (List.getElem_mem hk')).2
   generalize g.blocks[i].values[k] = v at *
   obtain ⟨num, thing⟩ := v
   cases thing with
   | phi of =>
    obtain ⟨h1, h2, h3⟩ := hQ.phi i k _ _ of hgi hgk rfl
    have hel : of.length = (D.Ref.edges (toF g) (i : Int)).length := by rw [h2, waysIn, List.length_map]
    refine ⟨fun _ => ⟨by simpa [toV] using hel, h1⟩, fun j' hj' => ⟨fun _ => ?_, fun h => absurd rfl h⟩⟩
    have hj2 : j' < of.length := by simpa [toV] using hj'
    obtain ⟨a, ha, q, hq, hqt, hed, _⟩ := edge_at g i hi' j' (by omega)
    refine ⟨by omega, a, by rw [toF_len]; exact ha, by rw [hed], ?_⟩
    obtain ⟨c, hc, hm⟩ := h3 j' of[j'] a (List.getElem?_eq_getElem hj2) ((waysIn_at g i hi' j' a).2 ⟨by omega, by rw [hed]⟩)
    rw [List.getElem?_eq_getElem ha, Option.some.injEq] at hc
    subst hc
    have e2 : (toV ⟨num, .phi of⟩).Args[j'] = ((of[j'] : Nat) : Int) := by simp [toV]
    rw [e2, hlen a ha]
    exact (hmade _ _ _).2 hm
   | arg n => exact ⟨fun h => absurd h (by show ¬ Ref.sArg = Ref.sPhi; decide), fun j' hj' => by simp [toV] at hj'⟩
   | const n => exact ⟨fun h => absurd h (by show ¬ Ref.sConst = Ref.sPhi; decide), fun j' hj' => by simp [toV] at hj'⟩
   | apply q of =>
    have hne : nameOf q ≠ Ref.sPhi := (D.Ref.arity_name q hwt.1).2.2.2.2.1
    refine ⟨fun h => absurd h hne, fun j' hj' => ⟨fun h => absurd h hne, fun _ => ?_⟩⟩
    have hj2 : j' < of.length := by simpa [toV] using hj'
    have e2 : (toV ⟨num, .apply q of⟩).Args[j'] = ((of[j'] : Nat) : Int) := by simp [toV]
    rw [e2]
    exact (hmade _ _ _).2 (hQ.app i k _ _ q of hgi hgk rfl of[j'] (List.getElem_mem hj2))
  ·have hll : (toB g.blocks[i]).Values.length = g.blocks[i].values.length := by simp [toB_values]
   rw [hll]
   cases hz : g.blocks[i].last with
   | ret v =>
    have e : (toB g.blocks[i]).V = (v : Int) := by simp [toB, mkBlk, toL, hz]
    rw [e]
    exact Or.inl ((hmade _ _ _).2 (hQ.last i _ hgi v (by rw [hz]; simp [useL])))
   | jump t =>
    have e : (toB g.blocks[i]).Last = Ref.sJump := by simp [toB, mkBlk, toL, hz]
    exact Or.inr e
   | ifs v x y =>
    have e : (toB g.blocks[i]).V = (v : Int) := by simp [toB, mkBlk, toL, hz]
    rw [e]
    exact Or.inl ((hmade _ _ _).2 (hQ.last i _ hgi v (by rw [hz]; simp [useL])))
end Go.Proofs.YtedkjanogjglkaaGreatDoor.Code
namespace Go.Proofs.YtedkjanogjglkaaGreatDoor
open Go.Proofs.YtedkjanogjglkaaGreatDoor.Code (RTree Nm RSt Prs CRule Pair)
namespace Code
theorem find_once : ∀ {l : List Val}, (l.map Val.num).Nodup -> ∀ v ∈ l, (l.find? fun u => u.num == v.num) = some v
 | u :: l, h, v, hv => by
  simp only [List.map_cons, List.nodup_cons] at h
  rw [List.find?_cons]
  rcases List.mem_cons.1 hv with hv | hv
  ·subst hv; simp
  ·have hne : (u.num == v.num) = false := by
    rw [beq_eq_false_iff_ne]
    intro e
    exact h.1 (by rw [e]; exact List.mem_map_of_mem hv)
   rw [hne]
   exact find_once h.2 v hv
theorem things_at {bks : List Blk} (h : OnceN bks) {b : Blk} {v : Val} (hb : b ∈ bks) (hv : v ∈ b.values) : things bks v.num = some v.thing := by
 unfold things
 rw [find_once h v (List.mem_flatMap.2 ⟨b, hb, hv⟩)]
 rfl
theorem sumV_nonneg (l : List Val) : 0 <= sumV l := by
 induction l with
 | nil => simp [sumV_nil]
 | cons v l ih =>
  have := weightT_range v.thing
  rw [sumV_cons]; omega
theorem sumB_nil : sumB [] = 0 := rfl
theorem sumB_nonneg (l : List Blk) : 0 <= sumB l := by
 induction l with
 | nil => simp [sumB_nil]
 | cons b l ih =>
  have := sumV_nonneg b.values
  rw [sumB_cons]; omega
theorem fits_op {th : Nat -> Option Thing} {k : Nat} {l : List RTree} {n : Nat} {kn kn' : Known} (h : fits th (.op k l) n kn = some kn') : ∃ of, th n = some (.apply k of) := by
 simp only [fits] at h
 split at h
 ·rename_i j of hj
  split at h
  ·rename_i e; subst e; exact ⟨of, hj⟩
  ·cases h
 ·cases h
theorem stepR_lighter {args : Nat} {rules : List CRule} {bks n : List Blk} {p : Pair} (hf : Fine bks) (hR : ∀ R ∈ rules, RuleOk R) (hp : p ∈ pairs rules bks) (hs : stepR args bks p = some n) : sumB n < sumB bks := by
 obtain ⟨hmr, b, v, kn, hb, hv, hkn⟩ := mem_pairs hp
 unfold stepR at hs
 rw [hb, Option.bind_some, hv, Option.bind_some, hkn, Option.bind_some, Option.filter_eq_some_iff] at hs
 obtain ⟨k, l, hnode, hk13, hk3, hheavy⟩ := (hR _ hmr).node
 rw [hnode] at hkn
 obtain ⟨of, hof⟩ := fits_op hkn
 have hvt := things_at hf.once (List.mem_of_getElem? hb) (List.mem_of_getElem? hv)
 rw [hvt, Option.some.injEq] at hof
 obtain ⟨hi, rfl⟩ := List.getElem?_eq_some_iff.1 hb
 obtain ⟨hk, rfl⟩ := List.getElem?_eq_some_iff.1 hv
 exact step_lighter hi hk rfl hof hheavy hs.1
theorem rewS_exists (args : Nat) (rules : List CRule) (picks : List Int) (hR : ∀ R ∈ rules, RuleOk R) : ∀ (N : Nat) (bks : List Blk) (k : Nat), sumB bks <= (N : Int) -> Fine bks -> ∃ out m er, RewS args rules picks k bks out m er /\ m <= k + N /\ Fine out
 | 0, bks, k, hN, hf => by
  by_cases hp : pairs rules bks = []
  ·exact ⟨bks, k, 0, .done hp, by omega, hf⟩
  ·have hlen : 0 < (pairs rules bks).length := List.length_pos_iff.2 hp
   have hlt := pickN_lt (picks := picks) (k := k) hlen
   have hpr := List.getElem?_eq_getElem hlt
   cases hs : stepR args bks (pairs rules bks)[pickN picks k (pairs rules bks).length] with
   | none => exact ⟨bks, k, 9, .room hpr hs, by omega, hf⟩
   | some n =>
    have h1 := stepR_lighter hf hR (List.getElem_mem hlt) hs
    have h2 := sumB_nonneg n
    omega
 | N + 1, bks, k, hN, hf => by
  by_cases hp : pairs rules bks = []
  ·exact ⟨bks, k, 0, .done hp, by omega, hf⟩
  ·have hlen : 0 < (pairs rules bks).length := List.length_pos_iff.2 hp
   have hlt := pickN_lt (picks := picks) (k := k) hlen
   have hpr := List.getElem?_eq_getElem hlt
   cases hs : stepR args bks (pairs rules bks)[pickN picks k (pairs rules bks).length] with
   | none => exact ⟨bks, k, 9, .room hpr hs, by omega, hf⟩
   | some n =>
    have h1 := stepR_lighter hf hR (List.getElem_mem hlt) hs
    obtain ⟨out, m, er, h3, h4, h5⟩ := rewS_exists args rules picks hR N n (k + 1) (by omega) (stepR_fine hf (hR _ (mem_pairs (List.getElem_mem hlt)).1) hs)
    exact ⟨out, m, er, .next hpr hs h3, by omega, h5⟩
theorem RewS.det {args : Nat} {rules : List CRule} {picks : List Int} {k m m' : Nat} {bks out out' : List Blk} {e e' : Int} (h : RewS args rules picks k bks out m e) (h' : RewS args rules picks k bks out' m' e') : out = out' /\ m = m' /\ e = e' := by
 induction h with
 | done h =>
  rcases h'.cases with ⟨_, h2, h3, h4⟩ | ⟨p, hne, _⟩
  ·exact ⟨h2.symm, h3.symm, h4.symm⟩
  ·exact absurd h hne
 | room h1 h2 =>
  rcases h'.cases with ⟨h3, _⟩ | ⟨p, _, h3, ⟨_, h5, h6, h7⟩ | ⟨n, h4, _⟩⟩
  ·rw [h3] at h1; simp at h1
  ·exact ⟨h5.symm, h6.symm, h7.symm⟩
  ·rw [h1, Option.some.injEq] at h3
   rw [<- h3, h2] at h4; cases h4
 | next h1 h2 _ ih =>
  rcases h'.cases with ⟨h3, _⟩ | ⟨p, _, h3, ⟨h4, _⟩ | ⟨n, h4, h5⟩⟩
  ·rw [h3] at h1; simp at h1
  ·rw [h1, Option.some.injEq] at h3
   rw [<- h3, h2] at h4; cases h4
  ·rw [h1, Option.some.injEq] at h3
   rw [<- h3, h2, Option.some.injEq] at h4
   subst h4
   exact ih h5
theorem weight_few : ∀ (l : List Val), sumV l <= l.length * 20
 | [] => by simp [sumV_nil]
 | v :: l => by
  have := weightT_range v.thing
  have := weight_few l
  rw [sumV_cons, List.length_cons]; omega
theorem sumB_few : ∀ (l : List Blk), (∀ b ∈ l, b.values.length <= 1000) -> sumB l <= l.length * 20000
 | [], _ => by simp [sumB_nil]
 | b :: l, h => by
  have h1 := weight_few b.values
  have h2 := sumB_few l (fun c hc => h c (List.mem_cons_of_mem _ hc))
  have h3 := h b (List.mem_cons_self ..)
  rw [sumB_cons, List.length_cons]; omega
theorem NiceB.sum {bks : List Blk} (h : NiceB bks) : sumB bks <= ((160000 : Nat) : Int) := by
 have h1 := sumB_few bks h.short
 have h2 := h.few
 omega
end Code
end Go.Proofs.YtedkjanogjglkaaGreatDoor
