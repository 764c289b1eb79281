/-
  What is right, by both: no walk.
  Walks: ir.read, where it gives up within.
  Walks: weights; ir.Check and ir.Weight of every text.
-/
import Derived.Test.YtedkjanogjglkaaDoorP10
import Derived.Test.YtedkjanogjglkaaDoorP12
import Derived.Test.YtedkjanogjglkaaDoorP07
import Derived.Test.YtedkjanogjglkaaDoorP14
import Derived.Test.YtedkjanogjglkaaDoorP15
import Derived.Test.YtedkjanogjglkaaDoorP11
import Derived.Test.YtedkjanogjglkaaDoorP08

namespace Go.Proofs.YtedkjanogjglkaaDoor.Code
open Go.Proofs.YtedkjanogjglkaaDoor.D.Ref (toV toL toB toF mkBlk)

/-! Blocks as the document's answer has them. -/

theorem toF_len (g : Fn) : (toF g).Blocks.length = g.blocks.length := by simp [toF]

theorem toF_get (g : Fn) (i : Nat) (h : i < g.blocks.length) : (toF g).Blocks[i]'(by rw [toF_len]; exact h) = toB g.blocks[i] := by simp [toF]

theorem toB_to (b : Blk) : (toB b).To = (tg b.last).map fun (t : Nat) => (t : Int) := by
  obtain ⟨vs, z⟩ := b
  cases z <;> rfl

theorem toV_V (v : Val) : (toV v).V = v.num := by
  obtain ⟨num, thing⟩ := v
  cases thing <;> rfl

theorem toB_values (b : Blk) : (toB b).Values = b.values.map toV := rfl

theorem mem_cast (l : List Nat) (t : Nat) : (t : Int) ∈ (l.map fun (t : Nat) => (t : Int)) ↔ t ∈ l := by
  constructor
  · intro h
    obtain ⟨x, hx, e⟩ := List.mem_map.1 h
    have : x = t := by omega
    subst this; exact hx
  · intro h
    exact List.mem_map.2 ⟨t, h, rfl⟩

theorem reach_iff (g : Fn) (i : Nat) : D.Ref.Reach (toF g) (-1) i ↔ Reached g.blocks i := by
  constructor
  · intro h S h0 hc
    refine h S h0 fun a ha t hS ht _ => ?_
    have ha' : a < g.blocks.length := by rw [toF_len] at ha; exact ha
    rw [toF_get g a ha', toB_to, mem_cast] at ht
    exact hc a ha' t hS ht
  · intro h S h0 hc
    refine h S h0 fun a ha t hS ht => ?_
    refine hc a (by rw [toF_len]; exact ha) t hS ?_ (by omega)
    rw [toF_get g a ha, toB_to, mem_cast]
    exact ht

/-! Each v number is made in one place. -/

theorem once_first {bks : List Blk} : ∀ {R : List Bool}, R.length = 60 → (∀ b ∈ bks, ∀ v ∈ b.values, v.num < 60) → Once R bks → ∀ b ∈ bks, ∀ x ∈ nums b.values, R.getD x false = false := by
  induction bks with
  | nil => intro R _ _ _ b hb; simp at hb
  | cons b l ih =>
    intro R hR hn ho c hc x hx
    rcases List.mem_cons.1 hc with rfl | hc
    · exact ho.1.2 x hx
    · have := ih (R := addAll R b.values) (by rw [addAll_length]; exact hR) (fun y hy => hn y (List.mem_cons_of_mem _ hy)) ho.2 c hc x hx
      cases h : R.getD x false with
      | false => rfl
      | true =>
        have h2 := (addAll_get b.values R x (fun v hv => by rw [hR]; exact hn b List.mem_cons_self v hv)).2 (Or.inl h)
        rw [this] at h2; cases h2

theorem once_apart {bks : List Blk} : ∀ {R : List Bool}, R.length = 60 → (∀ b ∈ bks, ∀ v ∈ b.values, v.num < 60) → Once R bks → ∀ i j (hi : i < bks.length) (hj : j < bks.length) x, x ∈ nums bks[i].values → x ∈ nums bks[j].values → i = j := by
  induction bks with
  | nil => intro R _ _ _ i j hi; simp at hi
  | cons b l ih =>
    intro R hR hn ho i j hi hj x hxi hxj
    have hR' : (addAll R b.values).length = 60 := by rw [addAll_length]; exact hR
    have hl : ∀ c ∈ l, ∀ v ∈ c.values, v.num < 60 := fun y hy => hn y (List.mem_cons_of_mem _ hy)
    have hbad : ∀ c ∈ l, x ∈ nums c.values → x ∈ nums b.values → False := by
      intro c hc h1 h2
      have h3 := once_first hR' hl ho.2 c hc x h1
      have h4 := (addAll_get b.values R x (fun v hv => by rw [hR]; exact hn b List.mem_cons_self v hv)).2 (Or.inr h2)
      rw [h3] at h4; cases h4
    match i, j, hi, hj, hxi, hxj with
    | 0, 0, _, _, _, _ => rfl
    | 0, j + 1, _, hj, hxi, hxj => exact (hbad _ (List.getElem_mem (by simpa using hj)) hxj hxi).elim
    | i + 1, 0, hi, _, hxi, hxj => exact (hbad _ (List.getElem_mem (by simpa using hi)) hxi hxj).elim
    | i + 1, j + 1, hi, hj, hxi, hxj =>
      have := ih hR' hl ho.2 i j (by simpa using hi) (by simpa using hj) x hxi hxj
      omega

theorem once_nodup {bks : List Blk} : ∀ {R : List Bool}, Once R bks → ∀ b ∈ bks, (nums b.values).Nodup := by
  induction bks with
  | nil => intro R _ b hb; simp at hb
  | cons b l ih =>
    intro R ho c hc
    rcases List.mem_cons.1 hc with rfl | hc
    · exact ho.1.1
    · exact ih ho.2 c hc

theorem place_there (g : Fn) (hn : ∀ b ∈ g.blocks, ∀ v ∈ b.values, v.num < 60) (ho : Once noNumber g.blocks) (x j : Nat) (hj : j < g.blocks.length) (hx : x ∈ nums g.blocks[j].values) :
    ∃ k, ∃ hk : k < g.blocks[j].values.length, g.blocks[j].values[k].num = x ∧ D.Ref.place (toF g) (x : Int) = ((j : Int), (k : Int)) ∧ ∀ m, m ≤ g.blocks[j].values.length → (x ∈ nums (g.blocks[j].values.take m) ↔ k < m) := by
  have hnd := once_nodup ho _ (List.getElem_mem hj)
  obtain ⟨k, hk, hkx⟩ := List.getElem_of_mem hx
  have hk' : k < g.blocks[j].values.length := by simpa [nums] using hk
  have hkx' : g.blocks[j].values[k].num = x := by simpa [nums] using hkx
  have huniq : ∀ m (hm : m < g.blocks[j].values.length), g.blocks[j].values[m].num = x → m = k := by
    intro m hm e
    have h1 : (nums g.blocks[j].values)[m]'(by simpa [nums] using hm) = (nums g.blocks[j].values)[k] := by simp [nums, e, hkx']
    exact (List.getElem_inj hnd).1 h1
  refine ⟨k, hk', hkx', ?_, fun m hm => ?_⟩
  · refine D.Ref.place_hit (toF g) x j k (by rw [toF_len]; exact hj) (fun i' hi' h => ?_) ?_
    · have hi : i' < g.blocks.length := by rw [toF_len] at h; exact h
      rw [toF_get g i' hi, toB_values]
      refine D.Ref.findV_miss _ _ fun m' _ hm' => ?_
      simp only [List.getElem_map, toV_V]
      intro e
      have hm2 : m' < g.blocks[i'].values.length := by simpa using hm'
      have hx' : x ∈ nums g.blocks[i'].values := by
        have : g.blocks[i'].values[m'].num = x := by omega
        rw [← this]
        exact List.mem_map.2 ⟨_, List.getElem_mem hm2, rfl⟩
      have := once_apart (R := noNumber) rfl hn ho i' j hi hj x hx' hx
      omega
    · rw [toF_get g j hj, toB_values]
      refine D.Ref.findV_hit _ _ k (by simpa using hk') (fun m' hm' hm'' => ?_) ?_
      · simp only [List.getElem_map, toV_V]
        intro e
        have := huniq m' (by simpa using hm'') (by omega)
        omega
      · simp only [List.getElem_map, toV_V]; omega
  · constructor
    · intro h
      obtain ⟨v, hv, e⟩ := List.mem_map.1 h
      obtain ⟨q, hq, rfl⟩ := List.getElem_of_mem hv
      rw [List.length_take] at hq
      rw [List.getElem_take] at e
      have := huniq q (by omega) e
      omega
    · intro h
      refine List.mem_map.2 ⟨g.blocks[j].values[k], ?_, hkx'⟩
      have : (g.blocks[j].values.take m)[k]'(by rw [List.length_take]; omega) = g.blocks[j].values[k] := List.getElem_take
      rw [← this]
      exact List.getElem_mem _

theorem place_nowhere (g : Fn) (x : Nat) (h : ∀ j (hj : j < g.blocks.length), x ∉ nums g.blocks[j].values) : D.Ref.place (toF g) (x : Int) = (-1, -1) := by
  refine D.Ref.place_miss (toF g) x fun i' hi' _ => ?_
  have hi : i' < g.blocks.length := by rw [toF_len] at hi'; exact hi'
  rw [toF_get g i' hi, toB_values]
  refine D.Ref.findV_miss _ _ fun m' _ hm' => ?_
  simp only [List.getElem_map, toV_V]
  intro e
  have hm2 : m' < g.blocks[i'].values.length := by simpa using hm'
  refine h i' hi ?_
  have : g.blocks[i'].values[m'].num = x := by omega
  rw [← this]
  exact List.mem_map.2 ⟨_, List.getElem_mem hm2, rfl⟩

/-! What is made on every way. -/

/-- A block that can be come to, can be come to without what is made nowhere else. -/
theorem free_own {bks : List Blk} {x j : Nat} (hown : ∀ i (hi : i < bks.length), x ∈ nums bks[i].values → i = j) (h : Reached bks j) : Free bks x j := by
  have := h (fun i => Free bks x i ∨ Free bks x j) (Or.inl Free.start) (fun a ha t hS ht => ?_)
  · rcases this with h | h <;> exact h
  · rcases hS with hS | hS
    · by_cases hx : x ∈ nums bks[a].values
      · have := hown a ha hx
        subst this
        exact Or.inr hS
      · exact Or.inl (Free.step ha hS hx ht)
    · exact Or.inr hS

theorem free_reach (g : Fn) {x b j : Nat} (hb : b < g.blocks.length) (hxb : x ∈ nums g.blocks[b].values) (hown : ∀ i (hi : i < g.blocks.length), x ∈ nums g.blocks[i].values → i = b) (hne : b ≠ j) :
    Free g.blocks x j ↔ ((b : Int) ≠ 0 ∧ D.Ref.Reach (toF g) (b : Int) j) := by
  constructor
  · intro hf
    have key : ∀ j, Free g.blocks x j → (b ≠ j → (b : Int) ≠ 0 ∧ D.Ref.Reach (toF g) (b : Int) j) := by
      intro j hf
      induction hf with
      | start => intro hne; exact ⟨by omega, D.Ref.Reach.zero _ _⟩
      | @step a t ha _ hxa htg ih =>
        intro hne
        have hba : b ≠ a := by
          rintro rfl
          exact hxa hxb
        obtain ⟨h1, h2⟩ := ih hba
        refine ⟨h1, D.Ref.Reach.step h2 (by rw [toF_len]; exact ha) ?_ (by omega)⟩
        rw [toF_get g a ha, toB_to, mem_cast]
        exact htg
    exact key j hf hne
  · rintro ⟨h0, hr⟩
    have := hr (fun i => Free g.blocks x i ∧ b ≠ i) ⟨Free.start, by omega⟩ (fun a ha t hS ht hb' => ?_)
    · exact this.1
    · have ha' : a < g.blocks.length := by rw [toF_len] at ha; exact ha
      rw [toF_get g a ha', toB_to, mem_cast] at ht
      refine ⟨Free.step ha' hS.1 (fun hx => ?_) ht, by omega⟩
      exact hS.2 (hown a ha' hx).symm

structure Base (g : Fn) : Prop where
  pos : 0 < g.blocks.length
  num : ∀ b ∈ g.blocks, ∀ v ∈ b.values, v.num < 60
  once : Once noNumber g.blocks
  goes : ∀ b ∈ g.blocks, ∀ t ∈ tg b.last, 1 ≤ t ∧ t < g.blocks.length
  reached : ∀ i, i < g.blocks.length → Reached g.blocks i

theorem made_iff (g : Fn) (hB : Base g) {A : Sets} (hA : A.length = g.blocks.length) (hA6 : All60 A) (hit : Iter g.blocks (startTo g.blocks.length g.blocks.length) A) (j : Nat) (hj : j < g.blocks.length) (m : Nat) (hm : m ≤ g.blocks[j].values.length) (x : Nat) (hx : x < 60) :
    (addAll (A.getD j []) (g.blocks[j].values.take m)).getD x false = true ↔ D.Ref.Made (toF g) (x : Int) j (m : Int) := by
  have h60 : (A.getD j []).length = 60 := getD_mem60 hA6 (by omega)
  rw [addAll_get _ _ x (fun v hv => by rw [h60]; exact hB.num _ (List.getElem_mem hj) v (List.mem_of_mem_take hv)), iter_iff hB.pos hB.num hB.goes hit j hj x hx]
  by_cases hex : ∃ b, ∃ hb : b < g.blocks.length, x ∈ nums g.blocks[b].values
  · obtain ⟨b, hb, hxb⟩ := hex
    have hown : ∀ i (hi : i < g.blocks.length), x ∈ nums g.blocks[i].values → i = b := fun i hi h => once_apart (R := noNumber) rfl hB.num hB.once i b hi hb x h hxb
    obtain ⟨k, hk, hkx, hpl, htk⟩ := place_there g hB.num hB.once x b hb hxb
    unfold D.Ref.Made
    rw [hpl]
    by_cases hbj : b = j
    · subst hbj
      rw [htk m hm]
      have hfree := free_own hown (hB.reached b hb)
      constructor
      · rintro (h | h)
        · exact absurd hfree h
        · exact ⟨by simp, Or.inl ⟨rfl, by simpa using h⟩⟩
      · rintro ⟨_, (h | h)⟩
        · exact Or.inr (by have := h.2; simp at this; exact this)
        · exact absurd rfl h.1
    · have hnot : x ∉ nums (g.blocks[j].values.take m) := by
        intro h
        refine hbj (hown j hj ?_).symm
        obtain ⟨v, hv, e⟩ := List.mem_map.1 h
        exact List.mem_map.2 ⟨v, List.mem_of_mem_take hv, e⟩
      have hfr := free_reach g hb hxb hown hbj
      constructor
      · rintro (h | h)
        · exact ⟨by simp, Or.inr ⟨by simp; omega, fun hh => h (hfr.2 hh)⟩⟩
        · exact absurd h hnot
      · rintro ⟨_, (h | h)⟩
        · exact absurd (by have := h.1; simp at this; omega) hbj
        · exact Or.inl fun hf => h.2 (hfr.1 hf)
  · have hno : ∀ i (hi : i < g.blocks.length), x ∉ nums g.blocks[i].values := fun i hi h => hex ⟨i, hi, h⟩
    have hpl := place_nowhere g x hno
    unfold D.Ref.Made
    rw [hpl]
    constructor
    · rintro (h | h)
      · exact absurd (free_own (fun i hi h => absurd h (hno i hi)) (hB.reached j hj)) h
      · obtain ⟨v, hv, e⟩ := List.mem_map.1 h
        exact absurd (List.mem_map.2 ⟨v, List.mem_of_mem_take hv, e⟩) (hno j hj)
    · rintro ⟨h, _⟩
      simp at h

/-! Edges. -/

theorem refEdgesTo (t i : Nat) : ∀ (l : List Nat) (k : Nat), D.Ref.edgesTo (t : Int) i (l.map fun (x : Nat) => (x : Int)) k = ((edgesTo i l k).filter fun e => e.2.2 == t).map fun e => ((e.1 : Int), (e.2.1 : Int))
  | [], _ => rfl
  | x :: l, k => by
    have ih := refEdgesTo t i l (k + 1)
    rw [List.map_cons]
    by_cases h : x = t
    · subst h
      rw [D.Ref.edgesTo_hit rfl, ih]
      simp [edgesTo]
    · rw [D.Ref.edgesTo_miss (by omega), ih]
      simp [edgesTo, h]

theorem refEdgesGo (t : Nat) : ∀ (l : List Blk) (i : Nat), D.Ref.edgesGo (t : Int) (l.map toB) i = ((edgesGo l i).filter fun e => e.2.2 == t).map fun e => ((e.1 : Int), (e.2.1 : Int))
  | [], _ => rfl
  | b :: l, i => by
    show D.Ref.edgesTo (t : Int) i (toB b).To 0 ++ D.Ref.edgesGo (t : Int) (l.map toB) (i + 1) = _
    rw [toB_to, refEdgesTo, refEdgesGo t l (i + 1)]
    show _ = ((edgesTo i (tg b.last) 0 ++ edgesGo l (i + 1)).filter _).map _
    rw [List.filter_append, List.map_append]

theorem refEdges (g : Fn) (t : Nat) : D.Ref.edges (toF g) (t : Int) = ((edgesGo g.blocks 0).filter fun e => e.2.2 == t).map fun e => ((e.1 : Int), (e.2.1 : Int)) := refEdgesGo t g.blocks 0

theorem refEdges_len (g : Fn) (t : Nat) (ht : t < g.blocks.length) : (D.Ref.edges (toF g) (t : Int)).length = (edges g.blocks).counts.getD t 0 := by
  rw [refEdges, List.length_map, ← List.countP_eq_length_filter]
  unfold edges
  rw [fold_counts t _ _ (by simpa using ht)]
  simp [List.getD_eq_getElem?_getD, ht, into]

theorem edge_back (g : Fn) (j k : Nat) (h : j < g.blocks.length) (hk : k < (tg g.blocks[j].last).length) (ht : (tg g.blocks[j].last)[k] < g.blocks.length) :
    (D.Ref.edges (toF g) ((tg g.blocks[j].last)[k] : Int))[(edges g.blocks).places j k]? = some ((j : Int), (k : Int)) := by
  obtain ⟨A, B, h1, h2, _, _, _⟩ := place_split g.blocks j k h hk ht
  rw [refEdges, h1, List.filter_append, List.filter_cons_of_pos (by simp), List.map_append, List.map_cons, h2]
  have e : into (tg g.blocks[j].last)[k] A = (List.map (fun (e : Nat × Nat × Nat) => ((e.1 : Int), (e.2.1 : Int))) (A.filter fun e => e.2.2 == (tg g.blocks[j].last)[k])).length := by
    rw [List.length_map, ← List.countP_eq_length_filter]; rfl
  rw [e, List.getElem?_append_right (Nat.le_refl _), Nat.sub_self]
  rfl

theorem filter_split {α : Type} (p : α → Bool) : ∀ (L : List α) (n : Nat) (e : α), (L.filter p)[n]? = some e → ∃ A B, L = A ++ e :: B ∧ A.countP p = n ∧ p e = true
  | [], n, e, h => by simp at h
  | x :: L, n, e, h => by
    by_cases hp : p x = true
    · rw [List.filter_cons_of_pos hp] at h
      match n, h with
      | 0, h =>
        simp only [List.getElem?_cons_zero, Option.some.injEq] at h
        subst h
        exact ⟨[], L, rfl, rfl, hp⟩
      | n + 1, h =>
        rw [List.getElem?_cons_succ] at h
        obtain ⟨A, B, h1, h2, h3⟩ := filter_split p L n e h
        exact ⟨x :: A, B, by rw [h1]; rfl, by rw [List.countP_cons_of_pos hp, h2], h3⟩
    · rw [List.filter_cons_of_neg hp] at h
      obtain ⟨A, B, h1, h2, h3⟩ := filter_split p L n e h
      exact ⟨x :: A, B, by rw [h1]; rfl, by rw [List.countP_cons_of_neg hp, h2], h3⟩

theorem split_unique {α : Type} {A B A' B' : List α} {e e' : α} (h : A ++ e :: B = A' ++ e' :: B') (hA : e' ∉ A) (hB : e' ∉ B) : A = A' := by
  rcases List.append_eq_append_iff.1 h with ⟨C, h1, h2⟩ | ⟨C, h1, h2⟩
  · cases C with
    | nil => simpa using h1.symm
    | cons c C =>
      injection h2 with _ h3
      exact absurd (by rw [h3]; simp) hB
  · cases C with
    | nil => simpa using h1
    | cons c C =>
      injection h2 with h3 _
      exact absurd (by rw [h1, h3]; simp) hA

theorem edgesTo_mem (i : Nat) : ∀ (l : List Nat) (m : Nat), ∀ e ∈ edgesTo i l m, ∃ k, ∃ hk : k < l.length, e = (i, m + k, l[k])
  | [], m, e, he => by simp [edgesTo] at he
  | a :: l, m, e, he => by
    rcases List.mem_cons.1 he with rfl | he
    · exact ⟨0, by simp, rfl⟩
    · obtain ⟨k, hk, h⟩ := edgesTo_mem i l (m + 1) e he
      exact ⟨k + 1, by simpa using hk, by rw [h]; simp; omega⟩

theorem edgesGo_mem : ∀ (l : List Blk) (i : Nat), ∀ e ∈ edgesGo l i, ∃ a, ∃ ha : a < l.length, ∃ k, ∃ hk : k < (tg l[a].last).length, e = (i + a, k, (tg l[a].last)[k])
  | [], i, e, he => by simp [edgesGo] at he
  | b :: l, i, e, he => by
    rcases List.mem_append.1 he with he | he
    · obtain ⟨k, hk, h⟩ := edgesTo_mem i _ 0 e he
      exact ⟨0, by simp, k, hk, by rw [h]; simp⟩
    · obtain ⟨a, ha, k, hk, h⟩ := edgesGo_mem l (i + 1) e he
      exact ⟨a + 1, by simpa using ha, k, hk, by rw [h]; simp; omega⟩

theorem edge_at (g : Fn) (t : Nat) (ht : t < g.blocks.length) (n : Nat) (hn : n < (D.Ref.edges (toF g) (t : Int)).length) :
    ∃ a, ∃ ha : a < g.blocks.length, ∃ k, ∃ hk : k < (tg g.blocks[a].last).length, (tg g.blocks[a].last)[k] = t ∧ (D.Ref.edges (toF g) (t : Int))[n] = ((a : Int), (k : Int)) ∧ (edges g.blocks).places a k = n := by
  have hg : (D.Ref.edges (toF g) (t : Int))[n]? = some ((D.Ref.edges (toF g) (t : Int))[n]) := List.getElem?_eq_getElem hn
  generalize (D.Ref.edges (toF g) (t : Int))[n] = q at hg ⊢
  rw [refEdges, List.getElem?_map] at hg
  cases he : ((edgesGo g.blocks 0).filter fun e => e.2.2 == t)[n]? with
  | none => rw [he] at hg; cases hg
  | some e =>
    rw [he] at hg
    simp only [Option.map_some, Option.some.injEq] at hg
    obtain ⟨A', B', h1, h2, h3⟩ := filter_split _ _ n e he
    obtain ⟨a, ha, k, hk, hek⟩ := edgesGo_mem g.blocks 0 e (by rw [h1]; simp)
    rw [Nat.zero_add] at hek
    subst hek
    have htk : (tg g.blocks[a].last)[k] = t := by simpa using h3
    obtain ⟨A, B, k1, k2, _, k4, k5⟩ := place_split g.blocks a k ha hk (by rw [htk]; exact ht)
    have hAA : A = A' := split_unique (k1.symm.trans h1) (fun h => k4 _ h ⟨rfl, rfl⟩) (fun h => k5 _ h ⟨rfl, rfl⟩)
    refine ⟨a, ha, k, hk, htk, hg.symm, ?_⟩
    rw [k2, htk, hAA]
    exact h2

/-! All together. -/

theorem vals_iff (l : List Val) : ∀ R : List Bool, ValsOk R l ↔ ∀ k (h : k < l.length), hasAll (addAll R (l.take k)) (useT l[k].thing) = true := by
  induction l with
  | nil => intro R; exact ⟨fun _ k h => by simp at h, fun _ => trivial⟩
  | cons v l ih =>
    intro R
    constructor
    · intro h k hk
      match k, hk with
      | 0, _ => exact h.1
      | k + 1, hk => exact (ih _).1 h.2 k (by simpa using hk)
    · intro h
      exact ⟨h 0 (by simp), (ih _).2 fun k hk => h (k + 1) (by simpa using hk)⟩

theorem hasAll_iff (R : List Bool) (of : List Nat) : hasAll R of = true ↔ ∀ x ∈ of, R.getD x false = true := by
  unfold hasAll
  rw [List.all_eq_true]

/-- What the document's answer asks of a function. -/
structure RightR (g : Fn) : Prop where
  once : Once noNumber g.blocks
  goes : ∀ b ∈ g.blocks, ∀ t ∈ tg b.last, 1 ≤ t ∧ t < g.blocks.length
  reached : ∀ i, i < g.blocks.length → D.Ref.Reach (toF g) (-1) i
  uses : ∀ i (h : i < (toF g).Blocks.length), D.Ref.Uses (toF g) i h

theorem uses_iff (g : Fn) (hB : Base g) (hW : Wf g.blocks) (hwf : WFF g) : (PhisOk g.blocks ∧ ∀ A, A.length = g.blocks.length → All60 A → Iter g.blocks (startTo g.blocks.length g.blocks.length) A → AheadOk g.blocks A) ↔
    ∀ i (h : i < (toF g).Blocks.length), D.Ref.Uses (toF g) i h := by
  obtain ⟨A, hit⟩ := iter_ends g.blocks hB.num hB.goes _ _ (start_good g.blocks hB.pos) (Nat.le_refl _)
  obtain ⟨hG, _⟩ := iter_good hB.num hB.goes hit (start_good g.blocks hB.pos)
  have hAl := hG.len
  have hA6 := hG.all
  have hmade := made_iff g hB hAl hA6 hit
  have hAget : ∀ j (h : j < A.length), A[j] = A.getD j [] := fun j h => by rw [List.getD_eq_getElem?_getD, List.getElem?_eq_getElem h]; rfl
  have hend : ∀ j (hj : j < g.blocks.length) x, x < 60 → ((addAll (A.getD j []) g.blocks[j].values).getD x false = true ↔ D.Ref.Made (toF g) (x : Int) j (g.blocks[j].values.length : Nat)) := fun j hj x hx => by
    have := hmade j hj g.blocks[j].values.length (Nat.le_refl _) x hx
    rw [List.take_length] at this
    exact this
  constructor
  · rintro ⟨hP, hAh⟩ i hi
    have hi' : i < g.blocks.length := by rw [toF_len] at hi; exact hi
    have hOk := hAh A hAl hA6 hit
    obtain ⟨hv, hl, _⟩ := hOk i hi' (by omega)
    rw [hAget i (by omega)] at hv hl
    unfold D.Ref.Uses
    rw [toF_get g i hi']
    refine ⟨fun k hk => ?_, ?_⟩
    · have hk' : k < g.blocks[i].values.length := by simpa [toB_values] using hk
      have hvk := (vals_iff _ _).1 hv k hk'
      have e : (toB g.blocks[i]).Values[k] = toV g.blocks[i].values[k] := by simp [toB_values]
      rw [e]
      have hPk := hP i hi' _ (List.getElem_mem hk')
      have hvm := List.getElem_mem hk'
      have hwt := ((hwf.blocks _ (List.getElem_mem hi')).vals _ hvm).2
      generalize g.blocks[i].values[k] = v at *
      obtain ⟨num, thing⟩ := v
      cases thing with
      | phi of =>
        obtain ⟨h1, h2⟩ := hPk of rfl
        refine ⟨fun _ => ⟨by rw [refEdges_len g i hi', ← h2]; simp [toV], h1⟩, fun j' hj' => ⟨fun _ => ?_, fun h => absurd rfl h⟩⟩
        have hj2 : j' < of.length := by simpa [toV] using hj'
        have hj3 : j' < (D.Ref.edges (toF g) (i : Int)).length := by rw [refEdges_len g i hi', ← h2]; exact hj2
        obtain ⟨a, ha, q, hq, hqt, hed, hpl⟩ := edge_at g i hi' j' hj3
        refine ⟨hj3, a, by rw [toF_len]; exact ha, by rw [hed], ?_⟩
        obtain ⟨_, _, hpm⟩ := hOk a ha (by omega)
        have hpm' := hpm q hq (by rw [hqt]; exact hi')
        rw [hpl, hAget a (by omega)] at hpm'
        simp only [hqt] at hpm'
        obtain ⟨h3, h4, h5⟩ := hpm' _ hvm of rfl
        have e2 : (toV ⟨num, .phi of⟩).Args[j'] = ((of[j'] : Nat) : Int) := by simp [toV]
        rw [e2]
        have := (hend a ha of[j'] h4).1 h5
        rw [toF_get g a ha]
        simpa [toB_values] using this
      | arg n => exact ⟨fun h => absurd h (by show ¬ Ref.sArg = Ref.sPhi; decide), fun j' hj' => by simp [toV] at hj'⟩
      | const n => exact ⟨fun h => absurd h (by show ¬ Ref.sConst = Ref.sPhi; decide), fun j' hj' => by simp [toV] at hj'⟩
      | apply q of =>
        have hne : nameOf q ≠ Ref.sPhi := (D.Ref.arity_name q hwt.1).2.2.2.2.1
        refine ⟨fun h => absurd h hne, fun j' hj' => ⟨fun h => absurd h hne, fun _ => ?_⟩⟩
        have hj2 : j' < of.length := by simpa [toV] using hj'
        have e2 : (toV ⟨num, .apply q of⟩).Args[j'] = ((of[j'] : Nat) : Int) := by simp [toV]
        rw [e2]
        exact (hmade i hi' k (by omega) of[j'] (hwt.2.2 _ (List.getElem_mem hj2))).1 ((hasAll_iff _ _).1 hvk of[j'] (List.getElem_mem hj2))
    · have hL := (hwf.blocks _ (List.getElem_mem hi')).last
      rw [hasAll_iff] at hl
      have hen := hend i hi'
      have hll : (toB g.blocks[i]).Values.length = g.blocks[i].values.length := by simp [toB_values]
      rw [hll]
      cases hz : g.blocks[i].last with
      | ret v =>
        rw [hz] at hl hL
        have e : (toB g.blocks[i]).V = (v : Int) := by simp [toB, mkBlk, toL, hz]
        rw [e]
        exact Or.inl ((hen v hL).1 (hl v (by simp [useL])))
      | jump t =>
        have e : (toB g.blocks[i]).Last = Ref.sJump := by simp [toB, mkBlk, toL, hz]
        exact Or.inr e
      | ifs v x y =>
        rw [hz] at hl hL
        have e : (toB g.blocks[i]).V = (v : Int) := by simp [toB, mkBlk, toL, hz]
        rw [e]
        exact Or.inl ((hen v hL.1).1 (hl v (by simp [useL])))
  · intro hU
    have hP : PhisOk g.blocks := by
      intro j hj v hv of e
      obtain ⟨k, hk, rfl⟩ := List.getElem_of_mem hv
      have h := (hU j (by rw [toF_len]; exact hj)).1 k (by rw [toF_get g j hj]; simpa [toB_values] using hk)
      have e1 : ((toF g).Blocks[j]'(by rw [toF_len]; exact hj)).Values[k]'(by rw [toF_get g j hj]; simpa [toB_values] using hk) = toV g.blocks[j].values[k] := by simp [toF_get g j hj, toB_values]
      rw [e1] at h
      generalize g.blocks[j].values[k] = v at *
      obtain ⟨num, thing⟩ := v
      simp only at e
      subst e
      obtain ⟨h1, h2⟩ := h.1 rfl
      refine ⟨h2, ?_⟩
      rw [refEdges_len g j hj] at h1
      rw [← h1]; simp [toV]
    refine ⟨hP, fun A' _ _ hit' => ?_⟩
    rw [← Iter.det hit hit']
    intro j hj hjA
    have hUj := hU j (by rw [toF_len]; exact hj)
    rw [hAget j hjA]
    refine ⟨(vals_iff _ _).2 fun k hk => ?_, ?_, fun k hk ht => ?_⟩
    · rw [hasAll_iff]
      intro x hx
      have h := hUj.1 k (by rw [toF_get g j hj]; simpa [toB_values] using hk)
      have e1 : ((toF g).Blocks[j]'(by rw [toF_len]; exact hj)).Values[k]'(by rw [toF_get g j hj]; simpa [toB_values] using hk) = toV g.blocks[j].values[k] := by simp [toF_get g j hj, toB_values]
      rw [e1] at h
      have hvm := List.getElem_mem hk
      have hwt := ((hwf.blocks _ (List.getElem_mem hj)).vals _ hvm).2
      have hmk := hmade j hj k (by omega)
      generalize g.blocks[j].values[k] = v at *
      obtain ⟨num, thing⟩ := v
      cases thing with
      | phi of => simp [useT] at hx
      | arg n => simp [useT] at hx
      | const n => simp [useT] at hx
      | apply q of =>
        have hne : nameOf q ≠ Ref.sPhi := (D.Ref.arity_name q hwt.1).2.2.2.2.1
        obtain ⟨j', hj', rfl⟩ := List.getElem_of_mem hx
        have hj2 : j' < of.length := hj'
        have h2 := (h.2 j' (by simpa [toV] using hj2)).2 hne
        have e2 : (toV ⟨num, .apply q of⟩).Args[j']'(by simpa [toV] using hj2) = ((of[j'] : Nat) : Int) := by simp [toV]
        rw [e2] at h2
        exact (hmk of[j'] (hwt.2.2 _ (List.getElem_mem hj2))).2 h2
    · rw [hasAll_iff]
      intro x hx
      have hL := (hwf.blocks _ (List.getElem_mem hj)).last
      have h := hUj.2
      rw [toF_get g j hj] at h
      have hll : (toB g.blocks[j]).Values.length = g.blocks[j].values.length := by simp [toB_values]
      rw [hll] at h
      have hen := hend j hj
      cases hz : g.blocks[j].last with
      | ret v =>
        rw [hz] at hx hL
        have e : (toB g.blocks[j]).V = (v : Int) := by simp [toB, mkBlk, toL, hz]
        have e' : (toB g.blocks[j]).Last = Ref.sRet := by simp [toB, mkBlk, toL, hz]
        rw [e, e'] at h
        have hxv : x = v := by simpa [useL] using hx
        subst hxv
        rcases h with h | h
        · exact (hen x hL).2 h
        · exact absurd h (by decide)
      | jump t => rw [hz] at hx; simp [useL] at hx
      | ifs v a b =>
        rw [hz] at hx hL
        have e : (toB g.blocks[j]).V = (v : Int) := by simp [toB, mkBlk, toL, hz]
        have e' : (toB g.blocks[j]).Last = Ref.sIf := by simp [toB, mkBlk, toL, hz]
        rw [e, e'] at h
        have hxv : x = v := by simpa [useL] using hx
        subst hxv
        rcases h with h | h
        · exact (hen x hL.1).2 h
        · exact absurd h (by decide)
    · intro v hv of e
      obtain ⟨_, h2⟩ := hP _ ht v hv of e
      have hlt := place_lt g.blocks j k hj hk ht
      have hpl : (edges g.blocks).places j k < of.length := by omega
      have h60 := hW.phis _ (List.getElem_mem ht) v hv of e _ (List.getElem_mem hpl)
      refine ⟨hpl, h60, ?_⟩
      obtain ⟨m, hm, rfl⟩ := List.getElem_of_mem hv
      have hb := edge_back g j k hj hk ht
      have h := (hU _ (by rw [toF_len]; exact ht)).1 m (by rw [toF_get g _ ht]; simpa [toB_values] using hm)
      have e1 : ((toF g).Blocks[(tg g.blocks[j].last)[k]]'(by rw [toF_len]; exact ht)).Values[m]'(by rw [toF_get g _ ht]; simpa [toB_values] using hm) = toV g.blocks[(tg g.blocks[j].last)[k]].values[m] := by simp [toF_get g _ ht, toB_values]
      rw [e1] at h
      have hen := hend j hj of[(edges g.blocks).places j k] h60
      generalize g.blocks[(tg g.blocks[j].last)[k]].values[m] = v at *
      obtain ⟨num, thing⟩ := v
      simp only at e
      subst e
      obtain ⟨h3, a, ha, h4, h5⟩ := (h.2 ((edges g.blocks).places j k) (by simpa [toV] using hpl)).1 rfl
      have h6 : (D.Ref.edges (toF g) ((tg g.blocks[j].last)[k] : Int))[(edges g.blocks).places j k] = ((j : Int), (k : Int)) := by
        rw [List.getElem?_eq_getElem h3] at hb
        exact Option.some.inj hb
      rw [h6] at h4
      have haj : a = j := by simp at h4; omega
      subst haj
      have e2 : (toV ⟨num, .phi of⟩).Args[(edges g.blocks).places a k]'(by simpa [toV] using hpl) = ((of[(edges g.blocks).places a k] : Nat) : Int) := by simp [toV]
      rw [e2, toF_get g a hj] at h5
      exact hen.2 (by simpa [toB_values] using h5)

theorem clip_goes {g : Fn} (hm : g.blocks.length ≤ 8) : (∀ b ∈ (clip g).blocks, ∀ t ∈ tg b.last, 1 ≤ t ∧ t < (clip g).blocks.length) ↔ ∀ b ∈ g.blocks, ∀ t ∈ tg b.last, 1 ≤ t ∧ t < g.blocks.length := by
  have hlen : (clip g).blocks.length = g.blocks.length := by simp [clip]
  rw [hlen]
  have key : ∀ b : Blk, (∀ t ∈ tg (clipB b).last, 1 ≤ t ∧ t < g.blocks.length) ↔ ∀ t ∈ tg b.last, 1 ≤ t ∧ t < g.blocks.length := by
    rintro ⟨vs, z⟩
    cases z with
    | ret v => exact Iff.rfl
    | jump t =>
      simp only [clipB, clipL, tg, List.mem_singleton, forall_eq]
      omega
    | ifs v x y =>
      simp only [clipB, clipL, tg, List.mem_cons, List.not_mem_nil, or_false, forall_eq_or_imp, forall_eq]
      omega
  constructor
  · intro h b hb
    exact (key b).1 (h (clipB b) (List.mem_map.2 ⟨b, hb, rfl⟩))
  · intro h b hb
    obtain ⟨b0, hb0, rfl⟩ := List.mem_map.1 hb
    exact (key b0).2 (h b0 hb0)

theorem clip_eq {g : Fn} (hm : g.blocks.length ≤ 8) (h : ∀ b ∈ g.blocks, ∀ t ∈ tg b.last, 1 ≤ t ∧ t < g.blocks.length) : clip g = g := by
  obtain ⟨args, bks⟩ := g
  unfold clip
  simp only at h hm ⊢
  congr 1
  have : ∀ b ∈ bks, clipB b = b := by
    rintro ⟨vs, z⟩ hb
    have := h _ hb
    cases z with
    | ret v => rfl
    | jump t =>
      have := this t (by simp [tg])
      simp only [clipB, clipL]
      rw [Nat.min_eq_left (by omega)]
    | ifs v x y =>
      have h1 := this x (by simp [tg])
      have h2 := this y (by simp [tg])
      simp only [clipB, clipL]
      rw [Nat.min_eq_left (by omega), Nat.min_eq_left (by omega)]
  rw [List.map_congr_left this, List.map_id']

/-- What is right, is right by both. -/
theorem right_iff (g : Fn) (hwf : WFF g) (hW : Wf (clip g).blocks) : Right (clip g).blocks ↔ RightR g := by
  have hm := hwf.most
  by_cases hg : ∀ b ∈ g.blocks, ∀ t ∈ tg b.last, 1 ≤ t ∧ t < g.blocks.length
  · rw [clip_eq hm hg] at hW ⊢
    have hnum : ∀ b ∈ g.blocks, ∀ v ∈ b.values, v.num < 60 := fun b hb v hv => ((hW.small b hb).2.1 v hv).1
    have hg2 : ∀ b ∈ g.blocks, ∀ t ∈ tg b.last, t < g.blocks.length := fun b hb t ht => (hg b hb t ht).2
    have hre := reached_iff g.blocks hm hW.some hg2
    constructor
    · intro h
      have hr := hre.1 h.reached
      have hB : Base g := ⟨hW.some, hnum, h.once, hg, hr⟩
      exact ⟨h.once, hg, fun i hi => (reach_iff g i).2 (hr i hi), (uses_iff g hB hW hwf).1 ⟨h.phis, h.ahead⟩⟩
    · intro h
      have hr : ∀ i, i < g.blocks.length → Reached g.blocks i := fun i hi => (reach_iff g i).1 (h.reached i hi)
      have hB : Base g := ⟨hW.some, hnum, h.once, hg, hr⟩
      obtain ⟨h1, h2⟩ := (uses_iff g hB hW hwf).2 h.uses
      exact ⟨hW.most, hW.some, hW.small, h.once, hg, hre.2 hr, h1, h2⟩
  · constructor
    · intro h
      exact absurd ((clip_goes hm).1 h.goes) hg
    · intro h
      exact absurd h.goes hg
end Go.Proofs.YtedkjanogjglkaaDoor.Code


namespace Go.Proofs.YtedkjanogjglkaaDoor
open Go.RowKit

set_option maxHeartbeats 2000000 in
theorem faultOf_any (why l : Int) (w : World) :
    Calls Tryd.prog 42 #[.iface 82 (.agg #[.int .i64 why, .int .i64 l])] w fun e w' => e = .returned (.agg #[.int .i64 why, .int .i64 l]) ∧ Below w.heap.size w w' := by
  have hta : ∀ (v : Value) (w : World), (Instr.typeAssert (.iface 82 v) 20 82 true).run Tryd.prog w = .ok (.tuple #[v, .bool true]) w := fun v w => by kernel_rfl
  go_enter Tryd.func42, Tryd.ntmps42
  go_wp2
  refine bodyPost_ret (v := .agg #[.int .i64 why, .int .i64 l]) (by simp [results, Tryd.results42, go_sem]) rfl ?_
  exact ⟨rfl, below_al (below_al (Below.refl _ _) _) _⟩

theorem someNe (v : Value) (w : World) : (binOp .neq 20 (.iface 82 v) .nilIface).run Tryd.prog w = .ok (.bool true) w := by kernel_rfl

set_option maxRecDepth 100000 in
set_option maxHeartbeats 2000000 in
theorem catch_fault (b : Nat) (x why l : Int) (w : World) (hc : w.cell? ⟨b, 0, none⟩ = some (.int .i64 x)) (hz : w.frozen? ⟨b, 0, none⟩ = false) (hb : b < w.heap.size) :
    CallsD Tryd.prog 41 #[.pointer (some ⟨b, 0, none⟩)] (.panicking [{ v := .iface 82 (.agg #[.int .i64 why, .int .i64 l]), recovered := false }]) w fun e u' w' =>
      e = .returned (.tuple #[]) ∧ u' = .panicking [{ v := .iface 82 (.agg #[.int .i64 why, .int .i64 l]), recovered := true }] ∧ ∃ w1, Below w.heap.size w w1 ∧ w' = w1.setCell ⟨b, 0, none⟩ (.int .i64 why) := by
  refine callsD_of_wpS Tryd.func41 rfl fun c₀ cs hu => ?_
  apply wpS_seq
  apply wpS_region
  simp [wpOpsS, go_sem, recoverD, hu, Tryd.ntmps41, Exit.thenS]
  apply wpS_seq
  apply wpS_region
  simp [wpOpsS, go_sem, someNe, Exit.thenS]
  refine wpS_cond (t := true) (by simp [Act.eval, Array.replicate]) ?_
  simp only [if_true]
  refine wpS_of_wp ?_
  have ht : (#[Value.pointer (some ⟨b, 0, none⟩)] ++
          ((((Array.replicate 7 undef).setIfInBounds 1
                        (Value.iface 82
                          (Value.agg #[Value.int IntKind.i64 why, Value.int IntKind.i64 l]))).setIfInBounds
                    0 (Value.iface 82 (Value.agg #[Value.int IntKind.i64 why, Value.int IntKind.i64 l]))).setIfInBounds
                2 (Value.iface 82 (Value.agg #[Value.int IntKind.i64 why, Value.int IntKind.i64 l]))).setIfInBounds
            3 (Value.bool true)) = #[.pointer (some ⟨b, 0, none⟩), .iface 82 (.agg #[.int .i64 why, .int .i64 l]), .iface 82 (.agg #[.int .i64 why, .int .i64 l]), .iface 82 (.agg #[.int .i64 why, .int .i64 l]), .bool true, undef, undef, undef] := by rfl
  rw [ht]
  go_wp2_with fail
  refine (faultOf_any why l w).mono ?_
  rintro e w1 ⟨rfl, hb1⟩
  have c1 := bcell' hb1 b 0 hb _ hc
  have z1 : w1.frozen? ⟨b, 0, none⟩ = false := ((bcell hb1).2 b 0 hb).trans hz
  have hfl : ∀ (w : World), (Instr.field 82 (.agg #[.int .i64 why, .int .i64 l]) 0).run Tryd.prog w = .ok (.int .i64 why) w := fun w => by kernel_rfl
  go_wp2
  simp [bodyPostS, results, Tryd.results41]
  exact ⟨w1, hb1, rfl⟩

/-- ir.read, where code.Read gives up. -/
theorem irRead_fail (s : ByteArray) (why : Int) (w : World) (hf : ∀ w', Below w.heap.size w w' → Calls Tryd.prog 43 #[.string s] w' fun e w'' => FailsW w' why e w'') :
    Calls Tryd.prog 22 #[.string s] w fun e w' =>
      e = .returned (.tuple #[.agg #[.int .i64 0, .slice none 0 0], .int .i64 why]) ∧ Below w.heap.size w w' := by
  have hmf : ∀ (fn : Fn) (first cap : Array Value) (w : World), (Instr.makeFunc fn first cap).run Tryd.prog w = .ok (.func fn first cap) w := fun _ _ _ _ => rfl
  have HF := hide hf
  clear hf
  go_enter_defers Tryd.func22, Tryd.ntmps22
  go_wp2_with fail
  generalize hw0 : (w.alloc _).alloc _ = w0
  have hx0 : w0.heap[w.heap.size]? = some (.cells #[.int .i64 0, .slice none 0 0] 47) := by rw [← hw0]; exact stay_alloc (heap_alloc_new w _)
  have hy0 : w0.heap[w.heap.size + 1]? = some (.cells #[.int .i64 0] 26) := by
    have h := heap_alloc_new (w.alloc (.cells #[.int .i64 0, .slice none 0 0] 47)) (.cells #[.int .i64 0] 26)
    rw [alloc_size] at h
    rw [← hw0]; exact h
  have hb0 : Below w.heap.size w w0 := by rw [← hw0]; exact below_al (below_al (Below.refl _ _) _) _
  clear hw0
  refine (HF.out w0 hb0).mono ?_
  rintro e w1 ⟨⟨l, rfl⟩, hb1⟩
  have hx1 := (hb1.block _ (lt_of_block hx0)).trans hx0
  have hy1 := (hb1.block _ (lt_of_block hy0)).trans hy0
  have hbw1 : Below w.heap.size w w1 := hb0.trans (hb1.mono hb0.size)
  clear hx0 hy0 hb0 hb1
  go_wp2
  refine leaves_cons (f := 41) (args := #[.pointer (some ⟨w.heap.size + 1, 0, none⟩)]) (by simp) (by simp [go_sem]) ?_
  refine (catch_fault (w.heap.size + 1) 0 why l w1 (blk_cell hy1 0 _ rfl) (blk_froz hy1 0) (lt_of_block hy1)).mono ?_
  rintro e u' w'' ⟨rfl, rfl, w2, hb2, rfl⟩
  have hx2 := (hb2.block _ (lt_of_block hx1)).trans hx1
  have hy2 := (hb2.block _ (lt_of_block hy1)).trans hy1
  have hbw2 : Below w.heap.size w w2 := hbw1.trans (hb2.mono hbw1.size)
  have d0 := blk_cell (stay_set (a := ⟨w.heap.size + 1, 0, none⟩) (v := .int .i64 why) hx2 (by simp)) 0 _ rfl
  have d1 := blk_cell (stay_set (a := ⟨w.heap.size + 1, 0, none⟩) (v := .int .i64 why) hx2 (by simp)) 1 _ rfl
  have e0 : (w2.setCell ⟨w.heap.size + 1, 0, none⟩ (.int .i64 why)).cell? ⟨w.heap.size + 1, 0, none⟩ = some (.int .i64 why) := blk_cell (set_block hy2) 0 _ rfl
  simp [Leaves, settle, results, Tryd.results22, go_sem, d0, d1, e0]
  exact below_set hbw2 (Nat.le_succ _) _ _

namespace Code
theorem linesG_len (l : List Val) : l.length ≤ (linesG l).length := by
  induction l with
  | nil => simp
  | cons v l ih =>
    have : (linesG (v :: l)).length = (lineG v).length + (linesG l).length := by simp [linesG]
    rw [this]
    have : 0 < (lineG v).length := by simp [lineG]
    simp only [List.length_cons]; omega

theorem blocksG_len : ∀ (l : List Blk) (k : Nat), ∀ b ∈ l, b.values.length ≤ (blocksG k l).length
  | [], _, b, hb => by simp at hb
  | a :: l, k, b, hb => by
    have e : (blocksG k (a :: l)).length = (blockG k a).length + (blocksG (k + 1) l).length := by simp [blocksG]
    rw [e]
    rcases List.mem_cons.1 hb with rfl | hb
    · have := linesG_len b.values
      have : (linesG b.values).length ≤ (blockG k b).length := by simp [blockG]; omega
      omega
    · have := blocksG_len l (k + 1) b hb
      omega

theorem wf_of {g : Fn} (h : WFF g) (hs : (textF g).length ≤ 1500) : Wf (clip g).blocks := by
  have hb : ∀ b ∈ (clip g).blocks, ∃ b0 ∈ g.blocks, b = clipB b0 := fun b hb => by
    obtain ⟨b0, h1, h2⟩ := List.mem_map.1 hb
    exact ⟨b0, h1, h2.symm⟩
  refine ⟨by simpa [clip] using h.most, ?_, ?_, ?_⟩
  · have := h.some
    show 0 < (g.blocks.map clipB).length
    rw [List.length_map]
    exact List.length_pos_iff.2 this
  · intro b hb'
    obtain ⟨b0, hb0, rfl⟩ := hb b hb'
    have hl := blocksG_len g.blocks 0 b0 hb0
    have : (blocksG 0 g.blocks).length ≤ (textF g).length := by simp [textF]; omega
    refine ⟨by show b0.values.length ≤ 100000; omega, fun v hv => ?_, ?_, ?_⟩
    · obtain ⟨h1, h2⟩ := (h.blocks b0 hb0).vals v hv
      refine ⟨h1, ?_⟩
      obtain ⟨num, thing⟩ := v
      cases thing with
      | phi of => exact ⟨by simp [useT], by simp [useT]⟩
      | arg n => exact ⟨by simp [useT], by simp [useT]⟩
      | const c => exact ⟨by simp [useT], by simp [useT]⟩
      | apply k of =>
        obtain ⟨g1, g2, g3⟩ := h2
        have := opOf_range k g1
        exact ⟨by simp only [useT]; omega, g3⟩
    · show (useL (clipL b0.last)).length ≤ 100000
      cases b0.last <;> simp [clipL, useL]
    · show ∀ x ∈ useL (clipL b0.last), x < 60
      have hL := (h.blocks b0 hb0).last
      cases hz : b0.last with
      | ret v =>
        rw [hz] at hL
        intro x hx
        rw [List.mem_singleton.1 hx]; exact hL
      | jump t => simp [clipL, useL]
      | ifs v x y =>
        rw [hz] at hL
        intro x hx
        rw [List.mem_singleton.1 hx]; exact hL.1
  · intro b hb' v hv of e
    obtain ⟨b0, hb0, rfl⟩ := hb b hb'
    obtain ⟨_, h2⟩ := (h.blocks b0 hb0).vals v hv
    rw [e] at h2
    exact h2

theorem wf_fn {s : List UInt8} {f : Fn} (h : FnIs s f) (hs : s.length ≤ 1500) : Wf f.blocks := by
  obtain ⟨g, rfl, h2, rfl⟩ := fnIs_inv h
  exact wf_of h2 hs

/-- What is wrong with a text. -/
inductive ErrOf (s : List UInt8) : Int → Prop
  | text : (1500 < s.length ∨ ∀ f, ¬ FnIs s f) → ErrOf s 1
  | form {f : Fn} : s.length ≤ 1500 → FnIs s f → ¬ Right f.blocks → ErrOf s 2
end Code

/-- ir.read of every text. -/
theorem irRead_any (s : ByteArray) (w : World) (ht : Tab w) :
    Calls Tryd.prog 22 #[.string s] w fun e w' =>
      ((∃ er, Code.ErrOf (bl s) er ∧ e = .returned (.tuple #[.agg #[.int .i64 0, .slice none 0 0], .int .i64 er])) ∨
       (∃ f p c, (bl s).length ≤ 1500 ∧ Code.FnIs (bl s) f ∧ Code.Right f.blocks ∧ e = .returned (.tuple #[.agg #[.int .i64 (f.args : Nat), .slice p f.blocks.length c], .int .i64 0]) ∧ RepBlks w' w.heap.size (.slice p f.blocks.length c) f.blocks)) ∧ Below w.heap.size w w' := by
  by_cases hlen : 1500 < (bl s).length
  · refine (irRead_fail s 1 w fun w' hb => read_long s w' (by rw [← bl_length]; exact hlen)).mono ?_
    rintro e w' ⟨h1, h2⟩
    exact ⟨Or.inl ⟨1, Code.ErrOf.text (Or.inl hlen), h1⟩, h2⟩
  · have hs : s = bs (bl s) := (bs_bl s).symm
    generalize bl s = l at *
    subst hs
    by_cases hf : ∃ f, Code.FnIs l f
    · obtain ⟨f, hf⟩ := hf
      by_cases hr : Code.Right f.blocks
      · refine (irRead_ok l f w (by omega) ht hf hr).mono ?_
        rintro e w' ⟨p, c, h1, h2, h3⟩
        exact ⟨Or.inr ⟨f, p, c, by omega, hf, hr, h1, h2⟩, h3⟩
      · refine (irRead_fail (bs l) 2 w fun w' hb => read_form l f w' (by omega) (ht.below hb) hf (Code.wf_fn hf (by omega)) hr).mono ?_
        rintro e w' ⟨h1, h2⟩
        exact ⟨Or.inl ⟨2, Code.ErrOf.form (by omega) hf hr, h1⟩, h2⟩
    · have hf' : ∀ f, ¬ Code.FnIs l f := fun f h => hf ⟨f, h⟩
      refine (irRead_fail (bs l) 1 w fun w' hb => read_none l w' (by omega) (ht.below hb) hf').mono ?_
      rintro e w' ⟨h1, h2⟩
      exact ⟨Or.inl ⟨1, Code.ErrOf.text (Or.inr hf'), h1⟩, h2⟩
end Go.Proofs.YtedkjanogjglkaaDoor


namespace Go.Proofs.YtedkjanogjglkaaDoor
open Go.RowKit

namespace Code
def opW (k : Nat) : Int := (ops.getD k ([], 0, 0)).2.2

def weightT : Thing → Int
  | .const _ => 1
  | .apply k _ => opW k
  | _ => 0

def sumV (l : List Val) : Int := l.foldl (fun n v => n + weightT v.thing) 0
def sumB (l : List Blk) : Int := l.foldl (fun n b => n + sumV b.values) 0

theorem opW_range (k : Nat) : 0 ≤ opW k ∧ opW k ≤ 20 := by
  by_cases h : k < 13
  · match k, h with
    | 0, _ | 1, _ | 2, _ | 3, _ | 4, _ | 5, _ | 6, _ | 7, _ | 8, _ | 9, _ | 10, _ | 11, _ | 12, _ => decide
  · unfold opW
    rw [List.getD_eq_getElem?_getD, List.getElem?_eq_none (by show 13 ≤ k; omega)]
    decide

theorem weightT_range (t : Thing) : 0 ≤ weightT t ∧ weightT t ≤ 20 := by
  cases t with
  | apply k _ => exact opW_range k
  | phi of => show (0 : Int) ≤ 0 ∧ (0 : Int) ≤ 20; decide
  | arg n => show (0 : Int) ≤ 0 ∧ (0 : Int) ≤ 20; decide
  | const n => show (0 : Int) ≤ 1 ∧ (1 : Int) ≤ 20; decide

theorem sumV_from (l : List Val) : ∀ n : Int, l.foldl (fun n v => n + weightT v.thing) n = n + sumV l := by
  unfold sumV
  induction l with
  | nil => intro n; simp
  | cons v l ih => intro n; simp only [List.foldl_cons]; rw [ih, ih (0 + _)]; omega

theorem sumV_cons (v : Val) (l : List Val) : sumV (v :: l) = weightT v.thing + sumV l := by
  show (v :: l).foldl _ 0 = _
  rw [List.foldl_cons, sumV_from]; omega

theorem sumB_from (l : List Blk) : ∀ n : Int, l.foldl (fun n b => n + sumV b.values) n = n + sumB l := by
  unfold sumB
  induction l with
  | nil => intro n; simp
  | cons v l ih => intro n; simp only [List.foldl_cons]; rw [ih, ih (0 + _)]; omega

theorem sumB_cons (b : Blk) (l : List Blk) : sumB (b :: l) = sumV b.values + sumB l := by
  show (b :: l).foldl _ 0 = _
  rw [List.foldl_cons, sumB_from]; omega

theorem sumV_range (l : List Val) : 0 ≤ sumV l ∧ sumV l ≤ 20 * l.length := by
  induction l with
  | nil => exact ⟨Int.le_refl _, Int.le_refl _⟩
  | cons v l ih =>
    rw [sumV_cons]
    have := weightT_range v.thing
    simp only [List.length_cons]; omega

theorem sumB_range (l : List Blk) (h : ∀ b ∈ l, b.values.length ≤ 100000) : 0 ≤ sumB l ∧ sumB l ≤ 2000000 * l.length := by
  induction l with
  | nil => exact ⟨Int.le_refl _, Int.le_refl _⟩
  | cons b l ih =>
    rw [sumB_cons]
    have := sumV_range b.values
    have := ih (fun x hx => h x (List.mem_cons_of_mem _ hx))
    have := h b List.mem_cons_self
    simp only [List.length_cons]; omega

theorem sumV_snoc (l : List Val) (k : Nat) (h : k < l.length) : sumV (l.take (k + 1)) = sumV (l.take k) + weightT l[k].thing := by
  unfold sumV
  rw [List.take_add_one, List.getElem?_eq_getElem h, List.foldl_append]
  rfl

theorem sumB_snoc (l : List Blk) (k : Nat) (h : k < l.length) : sumB (l.take (k + 1)) = sumB (l.take k) + sumV l[k].values := by
  unfold sumB
  rw [List.take_add_one, List.getElem?_eq_getElem h, List.foldl_append]
  rfl
end Code

theorem opCells_w (k : Nat) (h : k < 13) : opCells[k * 3 + 2]? = some (.int .i64 (Code.opW k)) := by
  match k, h with
  | 0, _ | 1, _ | 2, _ | 3, _ | 4, _ | 5, _ | 6, _ | 7, _ | 8, _ | 9, _ | 10, _ | 11, _ | 12, _ => rfl

theorem opW_any (k : Nat) (w : World) (hk : k < 13) (ht : Tab w) :
    Calls Tryd.prog 55 #[.int .i64 (k : Nat)] w fun e w' => e = .returned (.int .i64 (Code.opW k)) ∧ w' = w := by
  have hc := ht _ _ (opCells_w k hk)
  rw [Nat.zero_add] at hc
  have hk' : (k : Int) < 13 := by omega
  go_enter Tryd.func55, Tryd.ntmps55
  go_wp2
  go_ret
  exact ⟨rfl, rfl⟩

theorem isConst_phi (v : Value) (w : World) : (Instr.typeAssert (.iface 148 v) 91 122 true).run Tryd.prog w = .ok (.tuple #[.agg #[.int .i32 0], .bool false]) w := by kernel_rfl
theorem isConst_arg (v : Value) (w : World) : (Instr.typeAssert (.iface 150 v) 91 122 true).run Tryd.prog w = .ok (.tuple #[.agg #[.int .i32 0], .bool false]) w := by kernel_rfl

theorem weightT_any (y : Code.Thing) (v : Value) (base : Nat) (w : World) (ht : Tab w) (hk : ∀ k of, y = .apply k of → k < 13) (hy : ThingV w base y v) :
    Calls Tryd.prog 44 #[v] w fun e w' => e = .returned (.int .i64 (Code.weightT y)) ∧ Below w.heap.size w w' := by
  cases y with
  | phi of =>
    obtain ⟨r, rfl, hr⟩ := hy
    obtain ⟨p, c, rfl⟩ := own_slice hr
    have h1 := isApply_phi
    have h2 := isConst_phi
    go_enter Tryd.func44, Tryd.ntmps44
    go_wp2
    go_ret
    exact ⟨rfl, Below.refl _ _⟩
  | arg n =>
    have hy' : v = _ := hy
    subst hy'
    have h1 := isApply_arg
    have h2 := isConst_arg
    go_enter Tryd.func44, Tryd.ntmps44
    go_wp2
    go_ret
    exact ⟨rfl, Below.refl _ _⟩
  | const n =>
    have hy' : v = _ := hy
    subst hy'
    have h1 := isApply_const
    have h2 := isConst_const
    go_enter Tryd.func44, Tryd.ntmps44
    go_wp2
    go_ret
    exact ⟨rfl, below_al (Below.refl _ _) _⟩
  | apply k of =>
    obtain ⟨r, rfl, hr⟩ := hy
    obtain ⟨p, c, rfl⟩ := own_slice hr
    have h1 := isApply_apply
    have h2 := isConst_apply
    have hk' := hk k of rfl
    have HT := hide ht
    clear hk ht
    go_enter Tryd.func44, Tryd.ntmps44
    go_wp2_with fail
    generalize hw0 : w.alloc _ = w0
    have hb0 : Below w.heap.size w w0 := by rw [← hw0]; exact below_al (Below.refl _ _) _
    clear hw0
    refine (opW_any k w0 hk' (HT.out.below hb0)).mono ?_
    rintro e w1 ⟨rfl, rfl⟩
    go_wp2
    go_ret
    exact ⟨rfl, hb0⟩

set_option maxRecDepth 100000 in
set_option maxHeartbeats 4000000 in
theorem weightF_any (args : Nat) (bks : List Code.Blk) (p : Option Addr) (c : Nat) (base : Nat) (w : World) (ht : Tab w) (hf : RepBlks w base (.slice p bks.length c) bks) (hn : bks.length ≤ 8) (hl : ∀ b ∈ bks, b.values.length ≤ 100000) (hk : ∀ b ∈ bks, ∀ v ∈ b.values, ∀ k of, v.thing = .apply k of → k < 13) :
    Calls Tryd.prog 23 #[.agg #[.int .i64 (args : Nat), .slice p bks.length c]] w fun e w' => e = .returned (.int .i64 (Code.sumB bks)) ∧ Below w.heap.size w w' := by
  have HF := hide hf
  have HT := hide ht
  have HL := hide hl
  have HK := hide hk
  obtain ⟨p', c', hpe, hblk⟩ := hf.open
  simp only [Value.slice.injEq] at hpe
  obtain ⟨rfl, _, rfl⟩ := hpe
  have HBLK := hide hblk
  clear hblk hf ht hl hk
  go_enter Tryd.func23, Tryd.ntmps23
  go_wp2
  generalize hw0 : w.alloc _ = w0
  have hb0 : Below w.heap.size w w0 := by rw [← hw0]; exact below_al (Below.refl _ _) _
  clear hw0
  go_loopw [3, 11] (fun n i wr => ∃ j : Nat, j ≤ bks.length ∧ i = .int .i64 j ∧ n = .int .i64 (Code.sumB (bks.take j)) ∧ Below w.heap.size w wr) (fun _ i _ => bks.length - (intOf i).toNat)
  case atStart => exact ⟨0, by omega, rfl, rfl, hb0⟩
  case round =>
    obtain ⟨j, hj, rfl, rfl, hbw⟩ := hrel
    clear hb0
    have hz := hbw.size
    by_cases hlt : j < bks.length
    · obtain ⟨g, vs, rfl, hg, c0, c1, hvs⟩ := HBLK.out j hlt
      have hlen := HL.out bks[j] (List.getElem_mem hlt)
      have HKJ := hide (HK.out bks[j] (List.getElem_mem hlt))
      obtain ⟨pv, cv, rfl, hval⟩ := hvs.open
      have c0' := bcell' hbw g _ hg _ c0
      obtain ⟨T, zv, hzv⟩ := lastV_shape bks[j].last
      rw [hzv] at c1
      have c1' := bcell' hbw g _ hg _ c1
      have HSN := hide (Code.sumB_snoc bks j hlt)
      have hr1 := Code.sumB_range (bks.take j) (fun b hb => HL.out b (List.mem_of_mem_take hb))
      have hr1' : (bks.take j).length ≤ 8 := by rw [List.length_take]; omega
      generalize bks[j].values = vals at *
      have HV := hide hval
      clear hval c0 c1 hvs hzv
      generalize Code.sumB (bks.take j) = s0 at *
      go_wp2_with fail
      generalize hw3 : wr.alloc _ = w3
      have hb3 : Below w.heap.size w w3 := by rw [← hw3]; exact below_al hbw _
      clear hw3 c0' c1'
      rename World => wo
      go_loopw [3, 18] (fun n i ws => ∃ k : Nat, k ≤ vals.length ∧ i = .int .i64 k ∧ n = .int .i64 (s0 + Code.sumV (vals.take k)) ∧ Below w.heap.size w ws) (fun _ i _ => vals.length - (intOf i).toNat)
      case atStart => exact ⟨0, by omega, rfl, by show _ = Value.int .i64 (s0 + 0); rw [Int.add_zero], hb3⟩
      case round =>
        obtain ⟨k, hk, rfl, rfl, hbs⟩ := hrel
        clear hb3
        have hzs := hbs.size
        by_cases hkt : k < vals.length
        · obtain ⟨g2, th, rfl, hg2, d0, d1, hth⟩ := HV.out k hkt
          have d0' := bcell' hbs g2 _ hg2 _ d0
          have d1' := bcell' hbs g2 _ hg2 _ d1
          have HW : Hid (∀ w', Below w.heap.size w w' → Calls Tryd.prog 44 #[th] w' fun e w'' => e = .returned (.int .i64 (Code.weightT vals[k].thing)) ∧ Below w'.heap.size w' w'') := hide fun w' h =>
            weightT_any vals[k].thing th base w' (HT.out.below h) (HKJ.out vals[k] (List.getElem_mem hkt)) (hth.mono (fun _ _ _ h' => own_below h' h))
          obtain ⟨T', tv, rfl⟩ := hth.shape
          have HS := hide (Code.sumV_snoc vals k hkt)
          have hr2 := Code.sumV_range (vals.take k)
          have hr3 := Code.weightT_range vals[k].thing
          have hr2' : (vals.take k).length ≤ 100000 := by rw [List.length_take]; omega
          clear d0 d1 hth
          generalize Code.sumV (vals.take k) = s1 at *
          generalize vals[k].num = x at *
          generalize Code.weightT vals[k].thing = wt at *
          go_wp2_with fail
          generalize hw9 : wr.alloc _ = w9
          have hb9 : Below w.heap.size w w9 := by rw [← hw9]; exact below_al hbs _
          clear hw9 d0' d1'
          refine (HW.out w9 hb9).mono ?_
          rintro e w10 ⟨rfl, hb10⟩
          have hb10' : Below w.heap.size w w10 := hb9.trans (hb10.mono hb9.size)
          go_wp2
          exact ⟨⟨k + 1, by omega, by go_num, by rw [HS.out, Int.add_assoc], hb10'⟩, by simp [intOf]; omega⟩
        · have HA : Hid (vals.take k = vals) := hide (List.take_of_length_le (by omega))
          rw [HA.out]
          go_wp2
          exact ⟨⟨j + 1, by omega, by go_num, by rw [HSN.out], hbs⟩, by simp [intOf]; omega⟩
    · have HA : Hid (bks.take j = bks) := hide (List.take_of_length_le (by omega))
      rw [HA.out]
      go_wp2
      go_ret
      exact ⟨rfl, hbw⟩

theorem check_any (s : ByteArray) (w : World) (ht : Tab w) :
    Calls Tryd.prog 9 #[.string s] w fun e w' =>
      ((∃ er, Code.ErrOf (bl s) er ∧ e = .returned (.int .i64 er)) ∨ (∃ f, (bl s).length ≤ 1500 ∧ Code.FnIs (bl s) f ∧ Code.Right f.blocks ∧ e = .returned (.int .i64 0))) ∧ Below w.heap.size w w' := by
  have HR := hide (irRead_any s w ht)
  clear ht
  go_enter Tryd.func9, Tryd.ntmps9
  go_wp2_with fail
  refine HR.out.mono ?_
  rintro e w1 ⟨⟨er, h1, rfl⟩ | ⟨f, p, c, h1, h2, h3, rfl, h4⟩, hb⟩
  · go_wp2
    go_ret
    exact ⟨Or.inl ⟨er, h1, rfl⟩, below_al hb _⟩
  · have H := hide (And.intro h1 (And.intro h2 h3))
    clear h1 h2 h3 h4
    go_wp2
    go_ret
    exact ⟨Or.inr ⟨f, H.out.1, H.out.2.1, H.out.2.2, rfl⟩, below_al hb _⟩

theorem Code.fn_ops {s : List UInt8} {f : Code.Fn} (h : Code.FnIs s f) : ∀ b ∈ f.blocks, ∀ v ∈ b.values, ∀ k of, v.thing = .apply k of → k < 13 := by
  obtain ⟨g, rfl, h2, rfl⟩ := Code.fnIs_inv h
  intro b hb v hv k of e
  obtain ⟨b0, hb0, rfl⟩ := List.mem_map.1 hb
  have := ((h2.blocks b0 hb0).vals v hv).2
  rw [e] at this
  exact this.1

theorem Code.ErrOf.range {s : List UInt8} {er : Int} (h : Code.ErrOf s er) : er = 1 ∨ er = 2 := by
  cases h
  · exact Or.inl rfl
  · exact Or.inr rfl

set_option maxHeartbeats 2000000 in
theorem weight_any (s : ByteArray) (w : World) (ht : Tab w) :
    Calls Tryd.prog 10 #[.string s] w fun e w' =>
      ((∃ er, Code.ErrOf (bl s) er ∧ e = .returned (.tuple #[.int .i64 0, .int .i64 er])) ∨ (∃ f, (bl s).length ≤ 1500 ∧ Code.FnIs (bl s) f ∧ Code.Right f.blocks ∧ e = .returned (.tuple #[.int .i64 (Code.sumB f.blocks), .int .i64 0]))) ∧ Below w.heap.size w w' := by
  have HR := hide (irRead_any s w ht)
  have HT := hide ht
  clear ht
  go_enter Tryd.func10, Tryd.ntmps10
  go_wp2_with fail
  refine HR.out.mono ?_
  rintro e w1 ⟨⟨er, h1, rfl⟩ | ⟨f, p, c, h1, h2, h3, rfl, h4⟩, hb⟩
  · have hne : (er != 0) = true := by rcases h1.range with rfl | rfl <;> rfl
    go_wp2
    go_ret2
    exact ⟨Or.inl ⟨er, h1, rfl⟩, below_al hb _⟩
  · have H := hide (And.intro h1 (And.intro h2 h3))
    have H4 := hide h4
    clear h1 h2 h3 h4
    go_wp2_with fail
    generalize hw3 : w1.alloc _ = w3
    have hb3 : Below w1.heap.size w1 w3 := by rw [← hw3]; exact below_al (Below.refl _ _) _
    clear hw3
    have hbw3 : Below w.heap.size w w3 := hb.trans (hb3.mono hb.size)
    refine (weightF_any f.args f.blocks p c w.heap.size w3 (HT.out.below hbw3) (H4.out.below hb3) H.out.2.2.most (fun b hb => (H.out.2.2.small b hb).1) (Code.fn_ops H.out.2.1)).mono ?_
    rintro e w4 ⟨rfl, hb4⟩
    go_wp2
    go_ret2
    exact ⟨Or.inr ⟨f, H.out.1, H.out.2.1, H.out.2.2, rfl⟩, hbw3.trans (hb4.mono hbw3.size)⟩
end Go.Proofs.YtedkjanogjglkaaDoor
