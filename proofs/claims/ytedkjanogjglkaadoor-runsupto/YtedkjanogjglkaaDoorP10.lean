/-
  What is made ahead of each block, by taking away: it is what is made on every way; no walk.
  Edges: which place one has among those into its block; no walk.
  How a function of the document's answer lies in memory.
  Numbers as they are written are read as they are.
  Functions of one block as they are written are read as they are.
-/
import Derived.Test.YtedkjanogjglkaaDoorP09
import Derived.Test.YtedkjanogjglkaaDoorP07
import Derived.Test.YtedkjanogjglkaaDoorP05
import Derived.Test.YtedkjanogjglkaaDoorP01
import Derived.Test.YtedkjanogjglkaaDoorP03

namespace Go.Proofs.YtedkjanogjglkaaDoor.Code

/-- A block can be come to by a way on which x is not made. -/
inductive Free (bks : List Blk) (x : Nat) : Nat → Prop
  | start : Free bks x 0
  | step {a t : Nat} (h : a < bks.length) : Free bks x a → x ∉ nums bks[a].values → t ∈ tg bks[a].last → Free bks x t

theorem addAll_get (l : List Val) : ∀ (R : List Bool) (x : Nat), (∀ v ∈ l, v.num < R.length) → ((addAll R l).getD x false = true ↔ R.getD x false = true ∨ x ∈ nums l) := by
  induction l with
  | nil => intro R x _; simp [addAll, nums]
  | cons v l ih =>
    intro R x h
    have e : addAll R (v :: l) = addAll (R.set v.num true) l := rfl
    rw [e, ih (R.set v.num true) x (fun y hy => by simpa using h y (List.mem_cons_of_mem _ hy))]
    have hv := h v List.mem_cons_self
    by_cases hx : x = v.num
    · subst hx
      simp [nums, List.getD_eq_getElem?_getD, List.getElem?_set_self hv]
    · rw [set_getD R v.num x hx]
      simp [nums, hx]

theorem both_get (R S : List Bool) (x : Nat) (h : R.length = 60) (h' : S.length = 60) : ((both R S).getD x false = true ↔ R.getD x false = true ∧ S.getD x false = true) := by
  unfold both
  simp only [List.getD_eq_getElem?_getD, List.getElem?_zipWith]
  by_cases hx : x < 60
  · rw [List.getElem?_eq_getElem (by omega), List.getElem?_eq_getElem (by omega)]
    simp
  · rw [List.getElem?_eq_none (by omega), List.getElem?_eq_none (by omega)]
    simp

/-- What an iteration never takes away. -/
def Keeps (bks : List Blk) (A : Sets) : Prop := ∀ j, j < bks.length → ∀ x, x < 60 → ¬ Free bks x j → (A.getD j []).getD x false = true

theorem set_get (A : Sets) (t j : Nat) (R : List Bool) (h : t < A.length) : (A.set t R).getD j [] = if j = t then R else A.getD j [] := by
  by_cases e : j = t
  · subst e
    rw [if_pos rfl, List.getD_eq_getElem?_getD, List.getElem?_set_self h]; rfl
  · rw [if_neg e, List.getD_eq_getElem?_getD, List.getElem?_set_ne (by omega)]
    exact (List.getD_eq_getElem?_getD ..).symm

/-- All that holds along an iteration, and is wanted at its end. -/
structure Good (bks : List Blk) (A : Sets) : Prop where
  len : A.length = bks.length
  all : All60 A
  keeps : Keeps bks A
  zero : A.getD 0 [] = noNumber

theorem getD_mem60 {A : Sets} (h : All60 A) {j : Nat} (hj : j < A.length) : (A.getD j []).length = 60 := by
  rw [List.getD_eq_getElem?_getD, List.getElem?_eq_getElem hj]
  exact h _ (List.getElem_mem hj)

theorem step_good {bks : List Blk} {A : Sets} {c : Bool} (h : Good bks A) {j t : Nat} (hj : j < bks.length) (ht : t < bks.length) (ht1 : 1 ≤ t) (htg : t ∈ tg bks[j].last) {e : List Bool}
    (he : e.length = 60) (hek : ∀ x, x < 60 → (x ∈ nums bks[j].values ∨ ¬ Free bks x j) → e.getD x false = true) : Good bks (stepT e (A, c) t).1 := by
  have hlen := h.len
  have hb60 : (both (A.getD t []) e).length = 60 := both_length (getD_mem60 h.all (by omega)) he
  refine ⟨by simp [stepT, hlen], ?_, ?_, ?_⟩
  · exact h.all.set t hb60
  · intro k hk x hx hfr
    show ((A.set t (both (A.getD t []) e)).getD k []).getD x false = true
    rw [set_get A t k _ (by omega)]
    by_cases hkt : k = t
    · subst hkt
      rw [if_pos rfl, both_get _ _ x (getD_mem60 h.all (by omega)) he]
      refine ⟨h.keeps k hk x hx hfr, hek x hx ?_⟩
      by_cases hx' : x ∈ nums bks[j].values
      · exact Or.inl hx'
      · exact Or.inr fun hf => hfr (Free.step hj hf hx' htg)
    · rw [if_neg hkt]
      exact h.keeps k hk x hx hfr
  · show (A.set t _).getD 0 [] = noNumber
    rw [set_get A t 0 _ (by omega), if_neg (by omega)]
    exact h.zero

theorem end_len {bks : List Blk} {A : Sets} (h : Good bks A) {j : Nat} (hj : j < bks.length) (l : List Val) : (addAll (A.getD j []) l).length = 60 := by
  rw [addAll_length]; exact getD_mem60 h.all (by rw [h.len]; exact hj)

theorem stepB_good {bks : List Blk} (hnum : ∀ b ∈ bks, ∀ v ∈ b.values, v.num < 60) (hg : ∀ b ∈ bks, ∀ t ∈ tg b.last, 1 ≤ t ∧ t < bks.length) {A : Sets} {c : Bool} (h : Good bks A) {j : Nat} (hj : j < bks.length) : Good bks (stepB (A, c) j bks[j]).1 := by
  have he : (addAll (A.getD j []) bks[j].values).length = 60 := end_len h hj _
  have hek : ∀ x, x < 60 → (x ∈ nums bks[j].values ∨ ¬ Free bks x j) → (addAll (A.getD j []) bks[j].values).getD x false = true := by
    intro x hx hh
    rw [addAll_get _ _ _ (fun v hv => by rw [getD_mem60 h.all (by rw [h.len]; exact hj)]; exact hnum _ (List.getElem_mem hj) v hv)]
    rcases hh with hh | hh
    · exact Or.inr hh
    · exact Or.inl (h.keeps j hj x hx hh)
  unfold stepB
  simp only
  generalize addAll (A.getD j []) bks[j].values = e at *
  have : ∀ (l : List Nat) (st : Sets × Bool), (∀ t ∈ l, t ∈ tg bks[j].last) → Good bks st.1 → Good bks (l.foldl (stepT e) st).1 := by
    intro l
    induction l with
    | nil => intro st _ h; exact h
    | cons t l ih =>
      intro st hl hst
      rw [List.foldl_cons]
      have htg := hl t List.mem_cons_self
      have := hg _ (List.getElem_mem hj) t htg
      exact ih _ (fun x hx => hl x (List.mem_cons_of_mem _ hx)) (step_good (c := st.2) hst hj this.2 this.1 htg he hek)
  exact this _ _ (fun _ h => h) h

theorem passGo_good {bks : List Blk} (hnum : ∀ b ∈ bks, ∀ v ∈ b.values, v.num < 60) (hg : ∀ b ∈ bks, ∀ t ∈ tg b.last, 1 ≤ t ∧ t < bks.length) :
    ∀ (l : List Blk) (j : Nat) (st : Sets × Bool), l = bks.drop j → Good bks st.1 → Good bks (passGo l j st).1
  | [], _, _, _, h => h
  | b :: l, j, st, e, h => by
    have hj : j < bks.length := by
      rcases Nat.lt_or_ge j bks.length with h | h
      · exact h
      · rw [List.drop_of_length_le h] at e; cases e
    rw [List.drop_eq_getElem_cons hj] at e
    injection e with e1 e2
    unfold passGo
    refine passGo_good hnum hg l (j + 1) _ e2 ?_
    rw [e1]
    exact stepB_good (c := st.2) hnum hg h hj

theorem pass_good {bks : List Blk} (hnum : ∀ b ∈ bks, ∀ v ∈ b.values, v.num < 60) (hg : ∀ b ∈ bks, ∀ t ∈ tg b.last, 1 ≤ t ∧ t < bks.length) {A : Sets} (h : Good bks A) : Good bks (pass bks A).1 :=
  passGo_good hnum hg bks 0 (A, false) rfl h

/-- A round that changed nothing: nothing was to be taken away over any edge. -/
theorem stepT_same {e : List Bool} {st : Sets × Bool} {t : Nat} (h : (stepT e st t).2 = false) (ht : t < st.1.length) : st.2 = false ∧ (stepT e st t).1 = st.1 ∧ both (st.1.getD t []) e = st.1.getD t [] := by
  unfold stepT at h ⊢
  simp only [Bool.or_eq_false_iff, Bool.not_eq_false', beq_iff_eq] at h
  refine ⟨h.1, ?_, h.2⟩
  simp only
  rw [h.2]
  apply List.ext_getElem?
  intro i
  by_cases e : i = t
  · subst e
    rw [List.getElem?_set_self ht, List.getD_eq_getElem?_getD, List.getElem?_eq_getElem ht]; rfl
  · rw [List.getElem?_set_ne (by omega)]

theorem fold_same (e : List Bool) : ∀ (l : List Nat) (st : Sets × Bool), (∀ t ∈ l, t < st.1.length) → (l.foldl (stepT e) st).2 = false → st.2 = false ∧ (l.foldl (stepT e) st).1 = st.1 ∧ ∀ t ∈ l, both (st.1.getD t []) e = st.1.getD t []
  | [], st, _, h => ⟨h, rfl, by simp⟩
  | t :: l, st, hl, h => by
    rw [List.foldl_cons] at h ⊢
    have hlen : (stepT e st t).1.length = st.1.length := by simp [stepT]
    obtain ⟨h1, h2, h3⟩ := fold_same e l (stepT e st t) (fun x hx => by rw [hlen]; exact hl x (List.mem_cons_of_mem _ hx)) h
    obtain ⟨h4, h5, h6⟩ := stepT_same h1 (hl t List.mem_cons_self)
    refine ⟨h4, by rw [h2, h5], fun x hx => ?_⟩
    rcases List.mem_cons.1 hx with rfl | hx
    · exact h6
    · have := h3 x hx
      rw [h5] at this
      exact this

theorem passGo_same {bks : List Blk} (hg : ∀ b ∈ bks, ∀ t ∈ tg b.last, 1 ≤ t ∧ t < bks.length) : ∀ (l : List Blk) (j : Nat) (st : Sets × Bool), l = bks.drop j → st.1.length = bks.length → (passGo l j st).2 = false →
    st.2 = false ∧ (passGo l j st).1 = st.1 ∧ ∀ k, j ≤ k → ∀ h : k < bks.length, ∀ t ∈ tg bks[k].last, both (st.1.getD t []) (addAll (st.1.getD k []) bks[k].values) = st.1.getD t []
  | [], j, st, e, _, h => by
    refine ⟨h, rfl, fun k hk hkl => ?_⟩
    have : bks.length ≤ j := by
      rcases Nat.lt_or_ge j bks.length with h' | h'
      · rw [List.drop_eq_getElem_cons h'] at e; cases e
      · exact h'
    omega
  | b :: l, j, st, e, hlen, h => by
    have hj : j < bks.length := by
      rcases Nat.lt_or_ge j bks.length with h | h
      · exact h
      · rw [List.drop_of_length_le h] at e; cases e
    rw [List.drop_eq_getElem_cons hj] at e
    injection e with e1 e2
    subst e1
    unfold passGo at h ⊢
    have hl2 : (stepB st j bks[j]).1.length = bks.length := by
      unfold stepB
      have : ∀ (l : List Nat) (e : List Bool) (st : Sets × Bool), (l.foldl (stepT e) st).1.length = st.1.length := by
        intro l e
        induction l with
        | nil => intro st; rfl
        | cons t l ih => intro st; rw [List.foldl_cons, ih]; simp [stepT]
      rw [this, hlen]
    obtain ⟨h1, h2, h3⟩ := passGo_same hg l (j + 1) (stepB st j bks[j]) e2 hl2 h
    obtain ⟨h4, h5, h6⟩ := fold_same _ (tg bks[j].last) st (fun t ht => by rw [hlen]; exact (hg _ (List.getElem_mem hj) t ht).2) h1
    have hst : (stepB st j bks[j]).1 = st.1 := h5
    rw [hst] at h2 h3
    refine ⟨h4, h2, fun k hk hkl t ht => ?_⟩
    by_cases hkj : k = j
    · subst hkj; exact h6 t ht
    · exact h3 k (by omega) hkl t ht

theorem iter_good {bks : List Blk} (hnum : ∀ b ∈ bks, ∀ v ∈ b.values, v.num < 60) (hg : ∀ b ∈ bks, ∀ t ∈ tg b.last, 1 ≤ t ∧ t < bks.length) {A B : Sets} (h : Iter bks A B) (hA : Good bks A) :
    Good bks B ∧ ∀ k, ∀ h : k < bks.length, ∀ t ∈ tg bks[k].last, both (B.getD t []) (addAll (B.getD k []) bks[k].values) = B.getD t [] := by
  induction h with
  | @done A hd =>
    obtain ⟨_, h2, h3⟩ := passGo_same hg bks 0 (A, false) rfl hA.len hd
    have e : (pass bks A).1 = A := h2
    rw [e]
    exact ⟨hA, fun k hk => h3 k (Nat.zero_le _) hk⟩
  | more _ _ ih => exact ih (pass_good hnum hg hA)

theorem start_good (bks : List Blk) (hn : 0 < bks.length) : Good bks (startTo bks.length bks.length) := by
  refine ⟨startTo_length _ _, ?_, ?_, ?_⟩
  · intro R hR
    unfold startTo at hR
    obtain ⟨i, _, rfl⟩ := List.mem_map.1 hR
    split
    · simp [everyNumber]
    · simp [noNumber]
  · intro j hj x hx hf
    have hj0 : j ≠ 0 := by
      rintro rfl
      exact hf Free.start
    have e : (startTo bks.length bks.length).getD j [] = everyNumber := by
      unfold startTo
      rw [List.getD_eq_getElem?_getD, List.getElem?_map, List.getElem?_range hj]
      simp only [Option.map_some, Option.getD_some]
      rw [if_pos ⟨by omega, hj⟩]
    rw [e]
    unfold everyNumber
    rw [List.getD_eq_getElem?_getD, List.getElem?_replicate, if_pos hx]; rfl
  · unfold startTo
    rw [List.getD_eq_getElem?_getD, List.getElem?_map]
    rw [List.getElem?_range hn]
    simp

/-- What is left: just what is made on every way. -/
theorem iter_iff {bks : List Blk} (hn : 0 < bks.length) (hnum : ∀ b ∈ bks, ∀ v ∈ b.values, v.num < 60) (hg : ∀ b ∈ bks, ∀ t ∈ tg b.last, 1 ≤ t ∧ t < bks.length) {A : Sets} (h : Iter bks (startTo bks.length bks.length) A) (j : Nat) (hj : j < bks.length) (x : Nat) (hx : x < 60) :
    (A.getD j []).getD x false = true ↔ ¬ Free bks x j := by
  obtain ⟨hG, hE⟩ := iter_good hnum hg h (start_good bks hn)
  constructor
  · intro h1 h2
    have : ∀ j, Free bks x j → j < bks.length → (A.getD j []).getD x false = false := by
      intro j hf
      induction hf with
      | start =>
        intro _
        rw [hG.zero]
        unfold noNumber
        rw [List.getD_eq_getElem?_getD, List.getElem?_replicate, if_pos hx]; rfl
      | @step a t ha _ hxa htg ih =>
        intro ht
        have e := hE a ha t htg
        have ih' := ih ha
        cases hc : (A.getD t []).getD x false with
        | false => rfl
        | true =>
          exfalso
          rw [← e, both_get _ _ x (getD_mem60 hG.all (by rw [hG.len]; exact ht)) (end_len hG ha _)] at hc
          have := (addAll_get _ _ _ (fun v hv => by rw [getD_mem60 hG.all (by rw [hG.len]; exact ha)]; exact hnum _ (List.getElem_mem ha) v hv)).1 hc.2
          rcases this with h | h
          · rw [ih'] at h; cases h
          · exact hxa h
    rw [this j h2 hj] at h1
    cases h1
  · exact hG.keeps j hj x hx

/-- An iteration comes to an end. -/
theorem iter_ends (bks : List Blk) (hnum : ∀ b ∈ bks, ∀ v ∈ b.values, v.num < 60) (hg : ∀ b ∈ bks, ∀ t ∈ tg b.last, 1 ≤ t ∧ t < bks.length) : ∀ (n : Nat) (A : Sets), Good bks A → trues A ≤ n → ∃ B, Iter bks A B
  | n, A, hA, hn => by
    cases hd : (pass bks A).2 with
    | false => exact ⟨_, Iter.done hd⟩
    | true =>
      have hal : Along bks.length A (pass bks A) := by
        have : ∀ (l : List Blk) (j : Nat) (st : Sets × Bool), l = bks.drop j → Along bks.length A st → Good bks st.1 → Along bks.length A (passGo l j st) := by
          intro l
          induction l with
          | nil => intro j st _ h _; exact h
          | cons b l ih =>
            intro j st e h hgd
            have hj : j < bks.length := by
              rcases Nat.lt_or_ge j bks.length with h | h
              · exact h
              · rw [List.drop_of_length_le h] at e; cases e
            rw [List.drop_eq_getElem_cons hj] at e
            injection e with e1 e2
            subst e1
            unfold passGo
            refine ih (j + 1) _ e2 ?_ (stepB_good (c := st.2) hnum hg hgd hj)
            unfold stepB
            have he : (addAll (st.1.getD j []) bks[j].values).length = 60 := end_len hgd hj _
            generalize addAll (st.1.getD j []) bks[j].values = e at *
            have : ∀ (l : List Nat) (st : Sets × Bool), (∀ t ∈ l, t < bks.length) → Along bks.length A st → Along bks.length A (l.foldl (stepT e) st) := by
              intro l
              induction l with
              | nil => intro st _ h; exact h
              | cons t l ih =>
                intro st hl h
                rw [List.foldl_cons]
                exact ih _ (fun x hx => hl x (List.mem_cons_of_mem _ hx)) (h.step he (hl t List.mem_cons_self))
            exact this _ _ (fun t ht => (hg _ (List.getElem_mem hj) t ht).2) h
        exact this bks 0 (A, false) rfl ⟨hA.len, hA.all, Nat.le_refl _, fun h => by cases h⟩ hA
      have hlt := hal.lt hd
      match n, hn with
      | 0, hn => omega
      | n + 1, hn =>
        obtain ⟨B, hB⟩ := iter_ends bks hnum hg n (pass bks A).1 (pass_good hnum hg hA) (by omega)
        exact ⟨B, Iter.more hd hB⟩
end Go.Proofs.YtedkjanogjglkaaDoor.Code


namespace Go.Proofs.YtedkjanogjglkaaDoor.Code

/-- How many edges of a list go to a block. -/
def into (t : Nat) (L : List (Nat × Nat × Nat)) : Nat := L.countP fun e => e.2.2 == t

theorem into_app (t : Nat) (a b : List (Nat × Nat × Nat)) : into t (a ++ b) = into t a + into t b := List.countP_append

theorem into_cons (t : Nat) (e : Nat × Nat × Nat) (l : List (Nat × Nat × Nat)) : into t (e :: l) = into t l + if e.2.2 = t then 1 else 0 := by
  unfold into
  rw [List.countP_cons]
  by_cases h : e.2.2 = t <;> simp [h]

theorem fold_counts (t : Nat) : ∀ (L : List (Nat × Nat × Nat)) (E : Edges), t < E.counts.length → (L.foldl Edges.add E).counts.getD t 0 = E.counts.getD t 0 + into t L
  | [], E, _ => rfl
  | e :: L, E, h => by
    rw [List.foldl_cons, fold_counts t L (E.add e) (by rw [add_length]; exact h), into_cons]
    unfold Edges.add
    simp only [List.getD_eq_getElem?_getD, List.getElem?_set]
    by_cases he : e.2.2 = t
    · subst he
      simp only [if_true, h]
      simp; omega
    · simp only [if_neg he]; simp

theorem fold_places (i k : Nat) : ∀ (L : List (Nat × Nat × Nat)) (E : Edges), (∀ e ∈ L, ¬ (e.1 = i ∧ e.2.1 = k)) → (L.foldl Edges.add E).places i k = E.places i k
  | [], E, _ => rfl
  | e :: L, E, h => by
    rw [List.foldl_cons, fold_places i k L (E.add e) (fun x hx => h x (List.mem_cons_of_mem _ hx))]
    have := h e List.mem_cons_self
    unfold Edges.add put2
    simp only
    rw [if_neg (fun hh => this ⟨hh.1.symm, hh.2.symm⟩)]

theorem edgesTo_split (i : Nat) : ∀ (l : List Nat) (k0 k : Nat) (h : k < l.length), ∃ A B, edgesTo i l k0 = A ++ (i, k0 + k, l[k]) :: B ∧ (∀ e ∈ A, e.1 = i ∧ e.2.1 < k0 + k) ∧ ∀ e ∈ B, e.1 = i ∧ k0 + k < e.2.1
  | [], _, _, h => by simp at h
  | t :: l, k0, 0, _ => by
    refine ⟨[], edgesTo i l (k0 + 1), rfl, by simp, ?_⟩
    have : ∀ (l : List Nat) (m : Nat), ∀ e ∈ edgesTo i l m, e.1 = i ∧ m ≤ e.2.1 := by
      intro l
      induction l with
      | nil => intro m e he; simp [edgesTo] at he
      | cons a l ih =>
        intro m e he
        rcases List.mem_cons.1 he with rfl | he
        · exact ⟨rfl, Nat.le_refl _⟩
        · have := ih (m + 1) e he
          exact ⟨this.1, by omega⟩
    intro e he
    have := this l (k0 + 1) e he
    exact ⟨this.1, by omega⟩
  | t :: l, k0, k + 1, h => by
    obtain ⟨A, B, h1, h2, h3⟩ := edgesTo_split i l (k0 + 1) k (by simpa using h)
    have e : k0 + 1 + k = k0 + (k + 1) := by omega
    rw [e] at h1 h2 h3
    refine ⟨(i, k0, t) :: A, B, ?_, ?_, h3⟩
    · show (i, k0, t) :: edgesTo i l (k0 + 1) = _
      rw [h1]; rfl
    · intro x hx
      rcases List.mem_cons.1 hx with rfl | hx
      · exact ⟨rfl, by show k0 < k0 + (k + 1); omega⟩
      · exact h2 x hx

theorem edgesTo_from (i : Nat) : ∀ (l : List Nat) (m : Nat), ∀ e ∈ edgesTo i l m, e.1 = i
  | [], m, e, he => by simp [edgesTo] at he
  | a :: l, m, e, he => by
    rcases List.mem_cons.1 he with rfl | he
    · rfl
    · exact edgesTo_from i l (m + 1) e he

theorem edgesGo_from : ∀ (l : List Blk) (i : Nat), ∀ e ∈ edgesGo l i, i ≤ e.1
  | [], i, e, he => by simp [edgesGo] at he
  | b :: l, i, e, he => by
    rcases List.mem_append.1 he with he | he
    · exact Nat.le_of_eq (edgesTo_from i _ 0 e he).symm
    · have := edgesGo_from l (i + 1) e he
      omega

theorem edgesGo_split : ∀ (l : List Blk) (i0 j k : Nat) (h : j < l.length) (hk : k < (tg l[j].last).length), ∃ A B, edgesGo l i0 = A ++ (i0 + j, k, (tg l[j].last)[k]) :: B ∧
    (∀ e ∈ A, e.1 < i0 + j ∨ (e.1 = i0 + j ∧ e.2.1 < k)) ∧ ∀ e ∈ B, i0 + j < e.1 ∨ (e.1 = i0 + j ∧ k < e.2.1)
  | [], _, _, _, h, _ => by simp at h
  | b :: l, i0, 0, k, _, hk => by
    obtain ⟨A, B, h1, h2, h3⟩ := edgesTo_split i0 (tg b.last) 0 k hk
    refine ⟨A, B ++ edgesGo l (i0 + 1), ?_, ?_, ?_⟩
    · show edgesTo i0 (tg b.last) 0 ++ edgesGo l (i0 + 1) = _
      rw [h1]; simp
    · intro e he
      have := h2 e he
      exact Or.inr ⟨this.1, by omega⟩
    · intro e he
      rcases List.mem_append.1 he with he | he
      · have := h3 e he
        exact Or.inr ⟨this.1, by omega⟩
      · have := edgesGo_from l (i0 + 1) e he
        exact Or.inl (by omega)
  | b :: l, i0, j + 1, k, h, hk => by
    obtain ⟨A, B, h1, h2, h3⟩ := edgesGo_split l (i0 + 1) j k (by simpa using h) hk
    have e : i0 + 1 + j = i0 + (j + 1) := by omega
    rw [e] at h1 h2 h3
    refine ⟨edgesTo i0 (tg b.last) 0 ++ A, B, ?_, ?_, h3⟩
    · show edgesTo i0 (tg b.last) 0 ++ edgesGo l (i0 + 1) = _
      rw [h1]; simp
    · intro x hx
      rcases List.mem_append.1 hx with hx | hx
      · have := edgesTo_from i0 _ 0 x hx
        exact Or.inl (by omega)
      · exact h2 x hx

/-- The place of an edge, and how many there are: by those that stand ahead of it in the list of all. -/
theorem place_split (bks : List Blk) (j k : Nat) (h : j < bks.length) (hk : k < (tg bks[j].last).length) (ht : (tg bks[j].last)[k] < bks.length) :
    ∃ A B, edgesGo bks 0 = A ++ (j, k, (tg bks[j].last)[k]) :: B ∧ (edges bks).places j k = into (tg bks[j].last)[k] A ∧ (edges bks).counts.getD (tg bks[j].last)[k] 0 = into (tg bks[j].last)[k] A + 1 + into (tg bks[j].last)[k] B ∧
      (∀ e ∈ A, ¬ (e.1 = j ∧ e.2.1 = k)) ∧ (∀ e ∈ B, ¬ (e.1 = j ∧ e.2.1 = k)) := by
  obtain ⟨A, B, h1, h2, h3⟩ := edgesGo_split bks 0 j k h hk
  simp only [Nat.zero_add] at h1 h2 h3
  have hA : ∀ e ∈ A, ¬ (e.1 = j ∧ e.2.1 = k) := fun e he hh => by
    have := h2 e he
    omega
  have hB : ∀ e ∈ B, ¬ (e.1 = j ∧ e.2.1 = k) := fun e he hh => by
    have := h3 e he
    omega
  refine ⟨A, B, h1, ?_, ?_, hA, hB⟩
  · unfold edges
    rw [h1, List.foldl_append, List.foldl_cons, fold_places j k B _ hB]
    have hl : (List.foldl Edges.add ⟨List.replicate bks.length 0, fun _ _ => 0⟩ A).counts.length = bks.length := by
      have : ∀ (l : List (Nat × Nat × Nat)) (E : Edges), (l.foldl Edges.add E).counts.length = E.counts.length := by
        intro l
        induction l with
        | nil => intro E; rfl
        | cons e l ih => intro E; rw [List.foldl_cons, ih, add_length]
      rw [this]; simp
    show put2 _ j k _ j k = _
    unfold put2
    rw [if_pos ⟨rfl, rfl⟩]
    show (List.foldl Edges.add _ A).counts.getD _ 0 = _
    rw [fold_counts _ A _ (by simpa using ht)]
    simp [List.getD_eq_getElem?_getD, ht]
  · unfold edges
    rw [fold_counts _ _ _ (by simpa using ht), h1, into_app, into_cons, if_pos rfl]
    simp [List.getD_eq_getElem?_getD, ht]
    omega

theorem place_lt (bks : List Blk) (j k : Nat) (h : j < bks.length) (hk : k < (tg bks[j].last).length) (ht : (tg bks[j].last)[k] < bks.length) :
    (edges bks).places j k < (edges bks).counts.getD (tg bks[j].last)[k] 0 := by
  obtain ⟨A, B, _, h2, h3, _⟩ := place_split bks j k h hk ht
  omega
end Go.Proofs.YtedkjanogjglkaaDoor.Code


namespace Go.Proofs.YtedkjanogjglkaaDoor.D
open Go.RowKit

namespace Ref
open Go.Proofs.YtedkjanogjglkaaDoor.Ref
/-- A block: its values; what is last. -/
structure RBlk where
  Values : List RVal
  Last : List UInt8
  V : Int
  To : List Int

/-- A function. -/
structure RFunc where
  Args : Int
  Blocks : List RBlk

def sumVals (l : List RVal) : Int := l.foldl (fun n x => n + weight x.Op) 0
def sumBlks (l : List RBlk) : Int := l.foldl (fun n b => n + sumVals b.Values) 0
def countBlks (l : List RBlk) : Nat := l.foldl (fun n b => n + b.Values.length) 0

theorem weight_range (l : List UInt8) : 0 ≤ weight l ∧ weight l ≤ 20 := by
  unfold weight
  cases h : weights.lookup l with
  | none => simp
  | some n =>
    have hm : ∀ (ws : List (List UInt8 × Int)) (n : Int), ws.lookup l = some n → ∃ p ∈ ws, p.2 = n := by
      intro ws
      induction ws with
      | nil => intro n hn; cases hn
      | cons p t ih =>
        intro n hn
        simp only [List.lookup] at hn
        split at hn
        · exact ⟨p, List.mem_cons_self, Option.some.inj hn⟩
        · obtain ⟨q, hq, he⟩ := ih n hn
          exact ⟨q, List.mem_cons_of_mem _ hq, he⟩
    obtain ⟨p, hp, rfl⟩ := hm _ _ h
    have : ∀ p ∈ weights, 0 ≤ p.2 ∧ p.2 ≤ 20 := by decide
    exact this p hp

theorem sumVals_snoc (l : List RVal) (x : RVal) : sumVals (l ++ [x]) = sumVals l + weight x.Op := by simp [sumVals]
theorem sumBlks_snoc (l : List RBlk) (x : RBlk) : sumBlks (l ++ [x]) = sumBlks l + sumVals x.Values := by simp [sumBlks]
theorem countBlks_snoc (l : List RBlk) (x : RBlk) : countBlks (l ++ [x]) = countBlks l + x.Values.length := by simp [countBlks]

theorem sumVals_range (l : List RVal) : 0 ≤ sumVals l ∧ sumVals l ≤ 20 * l.length := by
  have key : ∀ (l : List RVal) (n : Int), n ≤ l.foldl (fun n x => n + weight x.Op) n ∧ l.foldl (fun n x => n + weight x.Op) n ≤ n + 20 * l.length := by
    intro l
    induction l with
    | nil => intro n; simp
    | cons x t ih =>
      intro n
      have h1 := ih (n + weight x.Op)
      have h2 := weight_range x.Op
      simp only [List.foldl_cons, List.length_cons]
      omega
  have := key l 0
  unfold sumVals
  omega

theorem sumBlks_range (l : List RBlk) : 0 ≤ sumBlks l ∧ sumBlks l ≤ 20 * countBlks l := by
  have key : ∀ (l : List RBlk) (n : Int) (m : Nat), 0 ≤ n → n ≤ 20 * m → 0 ≤ l.foldl (fun n b => n + sumVals b.Values) n ∧ l.foldl (fun n b => n + sumVals b.Values) n ≤ 20 * (l.foldl (fun n b => n + b.Values.length) m : Nat) := by
    intro l
    induction l with
    | nil => intro n m h1 h2; exact ⟨h1, h2⟩
    | cons x t ih =>
      intro n m h1 h2
      have h3 := sumVals_range x.Values
      exact ih (n + sumVals x.Values) (m + x.Values.length) (by omega) (by omega)
  exact key l 0 0 (by omega) (by omega)

theorem countBlks_le (l : List RBlk) (i : Nat) : countBlks (l.take i) ≤ countBlks l := by
  have key : ∀ (l : List RBlk) (m : Nat), m ≤ l.foldl (fun n b => n + b.Values.length) m := by
    intro l
    induction l with
    | nil => intro m; exact Nat.le_refl _
    | cons x t ih => intro m; exact Nat.le_trans (Nat.le_add_right _ _) (ih _)
  have e : l = l.take i ++ l.drop i := (List.take_append_drop i l).symm
  have h : countBlks l = (l.drop i).foldl (fun n b => n + b.Values.length) (countBlks (l.take i)) := by
    unfold countBlks
    rw [← List.foldl_append, List.take_append_drop]
  rw [h]
  exact key _ _
end Ref

/-- Values in a row, each in four cells, its list a row of its own. -/
def RepVals (w : World) (v : Value) (l : List Ref.RVal) : Prop :=
  ∃ cs, w.ownsRow 0 58 4 v l.length cs ∧ ∀ k (h : k < l.length), ∃ a, cs[k * 4]? = some (.int .i64 l[k].V) ∧ cs[k * 4 + 1]? = some (.string (bs l[k].Op)) ∧ cs[k * 4 + 2]? = some (.int .i64 l[k].N) ∧ cs[k * 4 + 3]? = some a ∧
    w.ownsRow 0 3 1 a l[k].Args.length (ints l[k].Args)

/-- Blocks in a row, each in four cells. -/
def RepBlks (w : World) (v : Value) (l : List Ref.RBlk) : Prop :=
  ∃ cs, w.ownsRow 0 55 4 v l.length cs ∧ ∀ i (h : i < l.length), ∃ vs to, cs[i * 4]? = some vs ∧ cs[i * 4 + 1]? = some (.string (bs l[i].Last)) ∧ cs[i * 4 + 2]? = some (.int .i64 l[i].V) ∧ cs[i * 4 + 3]? = some to ∧
    RepVals w vs l[i].Values ∧ w.ownsRow 0 3 1 to l[i].To.length (ints l[i].To)

def RepFunc (w : World) (fb : Nat) (f : Ref.RFunc) : Prop :=
  ∃ v, w.heap[fb]? = some (.cells #[.int .i64 f.Args, v] 52) ∧ RepBlks w v f.Blocks

theorem RepVals.below {w w' : World} {v : Value} {l : List Ref.RVal} (h : RepVals w v l) (hb : Below w.heap.size w w') : RepVals w' v l := by
  obtain ⟨cs, h1, h2⟩ := h
  refine ⟨cs, own_below h1 hb, fun k hk => ?_⟩
  obtain ⟨a, g0, g1, g2, g3, g4⟩ := h2 k hk
  exact ⟨a, g0, g1, g2, g3, own_below g4 hb⟩

theorem RepBlks.below {w w' : World} {v : Value} {l : List Ref.RBlk} (h : RepBlks w v l) (hb : Below w.heap.size w w') : RepBlks w' v l := by
  obtain ⟨cs, h1, h2⟩ := h
  refine ⟨cs, own_below h1 hb, fun k hk => ?_⟩
  obtain ⟨a, b, g0, g1, g2, g3, g4, g5⟩ := h2 k hk
  exact ⟨a, b, g0, g1, g2, g3, g4.below hb, own_below g5 hb⟩

theorem RepFunc.below {w w' : World} {fb : Nat} {f : Ref.RFunc} (h : RepFunc w fb f) (hb : Below w.heap.size w w') : RepFunc w' fb f := by
  obtain ⟨v, h1, h2⟩ := h
  exact ⟨v, by rw [hb.block fb (lt_of_block h1)]; exact h1, h2.below hb⟩

theorem blk2 {w : World} {b : Nat} {c0 c1 : Value} {T : TypeId} (h : w.heap[b]? = some (.cells #[c0, c1] T)) :
    w.cell? ⟨b, 0, none⟩ = some c0 ∧ w.cell? ⟨b, 1, none⟩ = some c1 ∧ w.frozen? ⟨b, 0, none⟩ = false ∧ w.frozen? ⟨b, 1, none⟩ = false :=
  ⟨blk_cell h 0 _ rfl, blk_cell h 1 _ rfl, blk_froz h 0, blk_froz h 1⟩

/-- A function that has blocks: where they lie, and block by block what is there. -/
theorem RepFunc.open {w : World} {fb : Nat} {f : Ref.RFunc} (h : RepFunc w fb f) (hn : 0 < f.Blocks.length) :
    ∃ gb cap, w.cell? ⟨fb, 0, none⟩ = some (.int .i64 f.Args) ∧ w.cell? ⟨fb, 1, none⟩ = some (.slice (some ⟨gb, 0, none⟩) f.Blocks.length cap) ∧
      ∀ i (h : i < f.Blocks.length), ∃ vs to, w.cell? ⟨gb, i * 4, none⟩ = some vs ∧ w.cell? ⟨gb, i * 4 + 1, none⟩ = some (.string (bs f.Blocks[i].Last)) ∧ w.cell? ⟨gb, i * 4 + 2, none⟩ = some (.int .i64 f.Blocks[i].V) ∧
        w.cell? ⟨gb, i * 4 + 3, none⟩ = some to ∧ RepVals w vs f.Blocks[i].Values ∧ w.ownsRow 0 3 1 to f.Blocks[i].To.length (ints f.Blocks[i].To) := by
  obtain ⟨v, h1, cs, h2, h3⟩ := h
  obtain ⟨gb, cap, rfl, _, _, hc⟩ := row_open h2 hn
  obtain ⟨b0, b1, _, _⟩ := blk2 h1
  refine ⟨gb, cap, b0, b1, fun i hi => ?_⟩
  obtain ⟨vs, to, g0, g1, g2, g3, g4, g5⟩ := h3 i hi
  exact ⟨vs, to, hc _ _ g0, hc _ _ g1, hc _ _ g2, hc _ _ g3, g4, g5⟩

/-- Values in a row: the slice, and value by value what is there. -/
theorem RepVals.open {w : World} {v : Value} {l : List Ref.RVal} (h : RepVals w v l) :
    ∃ p cap, v = .slice p l.length cap ∧ ∀ k (h : k < l.length), ∃ g a, p = some ⟨g, 0, none⟩ ∧ w.cell? ⟨g, k * 4, none⟩ = some (.int .i64 l[k].V) ∧ w.cell? ⟨g, k * 4 + 1, none⟩ = some (.string (bs l[k].Op)) ∧ w.cell? ⟨g, k * 4 + 2, none⟩ = some (.int .i64 l[k].N) ∧
      w.cell? ⟨g, k * 4 + 3, none⟩ = some a ∧ w.ownsRow 0 3 1 a l[k].Args.length (ints l[k].Args) := by
  obtain ⟨cs, h1, h2⟩ := h
  obtain ⟨p, cap, hv⟩ := own_slice h1
  refine ⟨p, cap, hv, fun k hk => ?_⟩
  obtain ⟨g, cap', hv', _, _, hc⟩ := row_open h1 (by omega)
  rw [hv] at hv'
  simp only [Value.slice.injEq] at hv'
  obtain ⟨a, g0, g1, g2, g3, g4⟩ := h2 k hk
  exact ⟨g, a, hv'.1, hc _ _ g0, hc _ _ g1, hc _ _ g2, hc _ _ g3, g4⟩

end Go.Proofs.YtedkjanogjglkaaDoor.D


namespace Go.Proofs.YtedkjanogjglkaaDoor.Code
open Go.Proofs.YtedkjanogjglkaaDoor.Ref (dec ch digits)

theorem ch_toNat (k : Nat) (h : k < 10) : (ch k).toNat = 48 + k := by
  match k, h with
  | 0, _ | 1, _ | 2, _ | 3, _ | 4, _ | 5, _ | 6, _ | 7, _ | 8, _ | 9, _ => rfl

theorem ch_in (k : Nat) (h : k < 10) : isIn 48 57 (ch k) = true := by
  match k, h with
  | 0, _ | 1, _ | 2, _ | 3, _ | 4, _ | 5, _ | 6, _ | 7, _ | 8, _ | 9, _ => rfl

theorem dec_in (n : Nat) : ∀ c ∈ dec n, isIn 48 57 c = true := by
  induction n using Nat.strongRecOn with
  | _ n ih =>
    intro c hc
    by_cases h : 10 ≤ n
    · rw [Ref.dec_big h] at hc
      rcases List.mem_append.1 hc with hc | hc
      · exact ih (n / 10) (by omega) c hc
      · rw [List.mem_singleton.1 hc]; exact ch_in _ (by omega)
    · rw [Ref.dec_small (by omega)] at hc
      rw [List.mem_singleton.1 hc]; exact ch_in _ (by omega)

theorem dec_fold (n : Nat) : numFold 0 (dec n) = n := by
  induction n using Nat.strongRecOn with
  | _ n ih =>
    by_cases h : 10 ≤ n
    · rw [Ref.dec_big h, numFold_snoc, ih (n / 10) (by omega), ch_toNat _ (by omega)]; omega
    · rw [Ref.dec_small (by omega)]
      show 10 * 0 + ((ch (n % 10)).toNat - 48) = n
      rw [ch_toNat _ (by omega)]; omega

theorem dec_len (n k : Nat) (hk : 0 < k) (h : n < 10 ^ k) : (dec n).length ≤ k := by
  induction n using Nat.strongRecOn generalizing k with
  | _ n ih =>
    by_cases h10 : 10 ≤ n
    · cases k with
      | zero => omega
      | succ k =>
        have hk2 : 0 < k := by
          cases k with
          | zero => omega
          | succ k => omega
        rw [Nat.pow_succ] at h
        have := ih (n / 10) (by omega) k hk2 (by omega)
        rw [Ref.dec_big h10, List.length_append]
        simpa using this
    · rw [Ref.dec_small (by omega)]; exact hk

theorem dec_pos (n : Nat) : dec n ≠ [] := by
  by_cases h : 10 ≤ n
  · rw [Ref.dec_big h]; simp
  · rw [Ref.dec_small (by omega)]; simp

theorem dec_head (n : Nat) (h : 0 < n) : ∃ c r, dec n = c :: r ∧ 49 ≤ c.toNat := by
  induction n using Nat.strongRecOn with
  | _ n ih =>
    by_cases h10 : 10 ≤ n
    · obtain ⟨c, r, e, hc⟩ := ih (n / 10) (by omega) (by omega)
      exact ⟨c, r ++ [ch (n % 10)], by rw [Ref.dec_big h10, e]; rfl, hc⟩
    · exact ⟨ch (n % 10), [], Ref.dec_small (by omega), by rw [ch_toNat _ (by omega)]; omega⟩

theorem dec_good (n : Nat) (h : n < 10 ^ 10) : ¬ badDigits (dec n) := by
  rintro (hb | hb | ⟨hb, hb'⟩)
  · exact dec_pos n hb
  · have := dec_len n 10 (by omega) h
    omega
  · by_cases h0 : 0 < n
    · obtain ⟨c, r, e, hc⟩ := dec_head n h0
      rw [e] at hb
      simp only [List.head?_cons, Option.some.injEq] at hb
      subst hb
      revert hc; decide
    · obtain rfl : n = 0 := by omega
      exact hb' rfl

/-- The text does not go on with a digit. -/
def Stop (r : List UInt8) : Prop := r.takeWhile (isIn 48 57) = []

theorem stop_cons {c : UInt8} {r : List UInt8} (h : isIn 48 57 c = false) : Stop (c :: r) := by
  unfold Stop; rw [List.takeWhile_cons_of_neg (by rw [h]; simp)]

theorem dropWhile_of_stop {r : List UInt8} (h : Stop r) : r.dropWhile (isIn 48 57) = r := by
  have := run_rest 48 57 r
  unfold run rest at this
  rw [h] at this
  exact this

theorem number_dec (n : Nat) (r : List UInt8) (h : n < 10 ^ 10) (hr : Stop r) : number (dec n ++ r) = some (n, r) := by
  have e1 : run 48 57 (dec n ++ r) = dec n := by
    unfold run
    rw [List.takeWhile_append_of_pos (dec_in n), hr, List.append_nil]
  have e2 : rest 48 57 (dec n ++ r) = r := by
    unfold rest
    rw [List.dropWhile_append_of_pos (dec_in n), dropWhile_of_stop hr]
  unfold number
  rw [e1, e2, if_neg (dec_good n h), dec_fold]

theorem value_dec (n : Nat) (r : List UInt8) (h : n < 60) (hr : Stop r) : value (118 :: (dec n ++ r)) = some (n, r) := by
  have e : cut [118] (118 :: (dec n ++ r)) = some (dec n ++ r) := cut_app [118] _
  unfold value
  rw [e, Option.bind_some]
  unfold below
  rw [number_dec n r (by omega) hr, Option.bind_some, if_pos (by show (n : Int) < 60; omega)]

theorem cut_not {c d : UInt8} {r : List UInt8} (h : c ≠ d) : cut [d] (c :: r) = none := by
  apply cut_none_of
  simp only [List.length_cons, List.length_nil, List.take_succ_cons, List.take_zero]
  intro hh
  exact h (List.cons.inj hh).1

theorem signed_digits (n : Int) (r : List UInt8) (h : -2147483648 ≤ n) (h' : n < 2147483648) (hr : Stop r) : signed (digits n ++ r) = some (n, r) := by
  unfold digits
  by_cases hn : n < 0
  · rw [if_pos hn]
    have e : cut [45] (45 :: dec (-n).toNat ++ r) = some (dec (-n).toNat ++ r) := cut_app [45] _
    unfold signed
    rw [e]
    show (number _).bind _ = _
    rw [number_dec _ r (by omega) hr, Option.bind_some]
    unfold signedOf
    rw [if_neg (by rintro ⟨_, h0⟩; simp only at h0; omega)]
    simp only [if_true]
    have e2 : -(((-n).toNat : Nat) : Int) = n := by omega
    rw [e2, if_neg (by omega)]
  · rw [if_neg hn]
    have e : cut [45] (dec n.toNat ++ r) = none := by
      cases hd : dec n.toNat with
      | nil => exact absurd hd (dec_pos _)
      | cons c t =>
        have hc := dec_in n.toNat c (by rw [hd]; exact List.mem_cons_self)
        refine cut_not (r := t ++ r) ?_
        rintro rfl
        revert hc; decide
    unfold signed
    rw [e]
    show (number _).bind _ = _
    rw [number_dec _ r (by omega) hr, Option.bind_some]
    unfold signedOf
    rw [if_neg (by rintro ⟨h0, _⟩; cases h0)]
    have e2 : ((n.toNat : Nat) : Int) = n := by omega
    simp only [Bool.false_eq_true, if_false]
    rw [e2, if_neg (by omega)]
end Go.Proofs.YtedkjanogjglkaaDoor.Code


namespace Go.Proofs.YtedkjanogjglkaaDoor.Code
open Go.Proofs.YtedkjanogjglkaaDoor.Ref (dec ch digits)

def nameOf (k : Nat) : List UInt8 := (ops.getD k ([], 0, 0)).1

/-- Values behind an operation's name. -/
def ofText : List Nat → List UInt8
  | [] => []
  | x :: l => 32 :: 118 :: (dec x ++ ofText l)

def textT : Thing → List UInt8
  | .phi _ => []
  | .arg n => [97, 114, 103, 32] ++ dec n
  | .const c => [99, 111, 110, 115, 116, 32] ++ digits c
  | .apply k of => nameOf k ++ ofText of

def lineOf (v : Val) : List UInt8 := 118 :: (dec v.num ++ ([32, 61, 32] ++ (textT v.thing ++ [10])))

/-- What may be written. -/
def GoodT (args : Nat) : Thing → Prop
  | .phi _ => False
  | .arg n => n < args
  | .const c => -2147483648 ≤ c ∧ c < 2147483648
  | .apply k of => k < 13 ∧ of.length = opOf k ∧ ∀ x ∈ of, x < 60

theorem stop32 (r : List UInt8) : Stop (32 :: r) := stop_cons rfl
theorem stop10 (r : List UInt8) : Stop (10 :: r) := stop_cons rfl

theorem ofText_stop (of : List Nat) (r : List UInt8) : Stop (ofText of ++ 10 :: r) := by
  cases of with
  | nil => exact stop10 r
  | cons x l => exact stop32 _

theorem ofN_text : ∀ (of : List Nat) (r : List UInt8), (∀ x ∈ of, x < 60) → ofN of.length (ofText of ++ 10 :: r) = some (of, 10 :: r)
  | [], r, _ => rfl
  | x :: l, r, h => by
    have e : cut [32] (32 :: (118 :: (dec x ++ (ofText l ++ 10 :: r)))) = some (118 :: (dec x ++ (ofText l ++ 10 :: r))) := cut_app [32] _
    have ih := ofN_text l r (fun y hy => h y (List.mem_cons_of_mem _ hy))
    show (cut [32] (ofText (x :: l) ++ 10 :: r)).bind _ = _
    have e0 : ofText (x :: l) ++ 10 :: r = 32 :: (118 :: (dec x ++ (ofText l ++ 10 :: r))) := by simp [ofText]
    rw [e0, e, Option.bind_some, value_dec x _ (h x List.mem_cons_self) (ofText_stop l r), Option.bind_some, ih]
    rfl

theorem apply_text (k : Nat) (hk : k < 13) (of : List Nat) (h : of.length = opOf k) (ho : ∀ x ∈ of, x < 60) (args : Nat) (r : List UInt8) :
    ThingOf args (nameOf k ++ (ofText of ++ 10 :: r)) (some (.apply k of, 10 :: r)) := by
  have hof := ofN_text of r ho
  rw [h] at hof
  have hne : ∃ t, ofText of ++ 10 :: r = 32 :: t := by
    cases of with
    | nil =>
      exfalso
      revert h
      match k, hk with
      | 0, _ | 1, _ | 2, _ | 3, _ | 4, _ | 5, _ | 6, _ | 7, _ | 8, _ | 9, _ | 10, _ | 11, _ | 12, _ => decide
    | cons x l => exact ⟨_, rfl⟩
  obtain ⟨t, ht⟩ := hne
  rw [ht] at hof ⊢
  have hw : word (nameOf k ++ 32 :: t) = nameOf k ∧ behind (nameOf k ++ 32 :: t) = 32 :: t ∧ opNamed (nameOf k) = some k ∧ nameOf k ≠ sPhi ∧ nameOf k ≠ sArg ∧ nameOf k ≠ sConst := by
    match k, hk with
    | 0, _ | 1, _ | 2, _ | 3, _ | 4, _ | 5, _ | 6, _ | 7, _ | 8, _ | 9, _ | 10, _ | 11, _ | 12, _ => exact ⟨rfl, rfl, rfl, by decide, by decide, by decide⟩
  obtain ⟨h1, h2, h3, h4, h5, h6⟩ := hw
  have hT := ThingOf.apply (args := args) (s := nameOf k ++ 32 :: t) (by rw [h1]; exact h4) (by rw [h1]; exact h5) (by rw [h1]; exact h6)
  rw [h1, h2] at hT
  unfold apply at hT
  rw [h3, Option.bind_some, hof] at hT
  exact hT

theorem thing_text (args : Nat) (t : Thing) (h : GoodT args t) (ha : args ≤ 60) (r : List UInt8) : ThingOf args (textT t ++ 10 :: r) (some (t, 10 :: r)) := by
  cases t with
  | phi of => exact absurd h id
  | arg n =>
    have hT := ThingOf.arg (args := args) (s := [97, 114, 103, 32] ++ (dec n ++ 10 :: r)) rfl
    have e1 : behind ([97, 114, 103, 32] ++ (dec n ++ 10 :: r)) = 32 :: (dec n ++ 10 :: r) := rfl
    have e2 : cut [32] (32 :: (dec n ++ 10 :: r)) = some (dec n ++ 10 :: r) := cut_app [32] _
    rw [e1, e2, Option.bind_some] at hT
    unfold below at hT
    have hn : n < args := h
    rw [number_dec n _ (by omega) (stop10 r), Option.bind_some, if_pos (by show (n : Int) < (args : Int); omega)] at hT
    show ThingOf args (([97, 114, 103, 32] ++ dec n) ++ 10 :: r) _
    rw [List.append_assoc]
    exact hT
  | const c =>
    have hT := ThingOf.const (args := args) (s := [99, 111, 110, 115, 116, 32] ++ (digits c ++ 10 :: r)) rfl
    have e1 : behind ([99, 111, 110, 115, 116, 32] ++ (digits c ++ 10 :: r)) = 32 :: (digits c ++ 10 :: r) := rfl
    have e2 : cut [32] (32 :: (digits c ++ 10 :: r)) = some (digits c ++ 10 :: r) := cut_app [32] _
    rw [e1, e2, Option.bind_some, signed_digits c _ h.1 h.2 (stop10 r)] at hT
    show ThingOf args (([99, 111, 110, 115, 116, 32] ++ digits c) ++ 10 :: r) _
    rw [List.append_assoc]
    exact hT
  | apply k of =>
    show ThingOf args ((nameOf k ++ ofText of) ++ 10 :: r) _
    rw [List.append_assoc]
    exact apply_text k h.1 of h.2.1 h.2.2 args r

theorem good_phi {args : Nat} {t : Thing} (h : GoodT args t) : t.isPhi = false := by
  cases t with
  | phi of => exact absurd h id
  | _ => rfl

/-- A block's values, written one below the other. -/
def linesOf (l : List Val) : List UInt8 := l.flatMap lineOf

theorem values_text (args : Nat) (ha : args ≤ 60) : ∀ (l : List Val) (b : Bool) (r : List UInt8), (∀ v ∈ l, v.num < 60 ∧ GoodT args v.thing) → cut [118] r = none → ValuesOf args b (linesOf l ++ r) (some (l, r))
  | [], b, r, _, hr => ValuesOf.done hr
  | v :: l, b, r, h, hr => by
    obtain ⟨hv, hg⟩ := h v List.mem_cons_self
    have ih := values_text args ha l v.thing.isPhi r (fun x hx => h x (List.mem_cons_of_mem _ hx)) hr
    have e : linesOf (v :: l) ++ r = 118 :: (dec v.num ++ ([32, 61, 32] ++ (textT v.thing ++ 10 :: (linesOf l ++ r)))) := by simp [linesOf, lineOf]
    rw [e]
    have h1 : cut [118] (118 :: (dec v.num ++ ([32, 61, 32] ++ (textT v.thing ++ 10 :: (linesOf l ++ r))))) = some _ := cut_app [118] _
    have h2 := value_dec v.num ([32, 61, 32] ++ (textT v.thing ++ 10 :: (linesOf l ++ r))) hv (stop32 _)
    have h3 := cut_app [32, 61, 32] (textT v.thing ++ 10 :: (linesOf l ++ r))
    have h4 := thing_text args v.thing hg ha (linesOf l ++ r)
    have h5 : cut [10] (10 :: (linesOf l ++ r)) = some _ := cut_app [10] _
    exact ValuesOf.more h1 h2 h3 h4 (fun hp => by rw [good_phi hg] at hp; cases hp) h5 ih

/-- A function of one block that gives one of its values back. -/
def oneBlock (l : List Val) (v : Nat) : List UInt8 := [98, 48, 58, 10] ++ (linesOf l ++ ([114, 101, 116, 32, 118] ++ (dec v ++ [10])))

theorem block_text (args : Nat) (ha : args ≤ 60) (l : List Val) (v : Nat) (h : ∀ v ∈ l, v.num < 60 ∧ GoodT args v.thing) (hv : v < 60) : BlockIs args 0 (oneBlock l v) ⟨l, .ret v⟩ [] := by
  have h5 := values_text args ha l true ([114, 101, 116, 32, 118] ++ (dec v ++ [10])) h (cut_not (by decide))
  have h6 : last ([114, 101, 116, 32, 118] ++ (dec v ++ [10])) = some (.ret v, [10]) := by
    have e0 : word ([114, 101, 116, 32, 118] ++ (dec v ++ [10])) = sRet := rfl
    have e1 : behind ([114, 101, 116, 32, 118] ++ (dec v ++ [10])) = 32 :: (118 :: (dec v ++ [10])) := rfl
    have e2 : cut [32] (32 :: (118 :: (dec v ++ [10]))) = some (118 :: (dec v ++ [10])) := cut_app [32] _
    unfold last
    rw [if_pos e0, e1, e2, Option.bind_some, value_dec v [10] hv (stop10 [])]
    rfl
  exact BlockIs.mk (r1 := [48, 58, 10] ++ (linesOf l ++ ([114, 101, 116, 32, 118] ++ (dec v ++ [10])))) (r2 := [58, 10] ++ (linesOf l ++ ([114, 101, 116, 32, 118] ++ (dec v ++ [10])))) (cut_app [98] _) (by
    unfold below
    have := number_dec 0 ([58, 10] ++ (linesOf l ++ ([114, 101, 116, 32, 118] ++ (dec v ++ [10])))) (by omega) (stop_cons rfl)
    have e : dec 0 ++ ([58, 10] ++ (linesOf l ++ ([114, 101, 116, 32, 118] ++ (dec v ++ [10])))) = [48, 58, 10] ++ (linesOf l ++ ([114, 101, 116, 32, 118] ++ (dec v ++ [10]))) := rfl
    rw [e] at this
    rw [this]
    rfl) (cut_app [58] _) (cut_app [10] _) h5 h6 (cut_app [10] [])

theorem fn_text (l : List Val) (v : Nat) (h : ∀ v ∈ l, v.num < 60 ∧ GoodT 2 v.thing) (hv : v < 60) : FnIs ([102, 117, 110, 99, 32, 50, 10] ++ oneBlock l v) ⟨2, [⟨l, .ret v⟩]⟩ := by
  refine FnIs.mk (r1 := [50, 10] ++ oneBlock l v) (r2 := [10] ++ oneBlock l v) (r3 := oneBlock l v) (r4 := []) (cut_app sFunc _) ?_ (cut_app [10] _) (block_text 2 (by omega) l v h hv) BlocksIs.nil
  unfold below
  have := number_dec 2 ([10] ++ oneBlock l v) (by omega) (stop_cons rfl)
  have e : dec 2 ++ ([10] ++ oneBlock l v) = [50, 10] ++ oneBlock l v := rfl
  rw [e] at this
  rw [this]
  rfl
end Go.Proofs.YtedkjanogjglkaaDoor.Code
