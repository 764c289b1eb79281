/-
  Walks: code.Block.madeAtEnd, code.targets, code.usesInPlace, code.usesOfLast.
-/
import Derived.Test.YtdffpkmabehfbaaDoorCSet2
namespace Go.Proofs.YtdffpkmabehfbaaDoor
open Go.RowKit

/-- Values in a row: the slice, and value by value what is there. -/
theorem RepVals.open {w : World} {base : Nat} {v : Value} {l : List Code.Val} (h : RepVals w base v l) :
    ∃ p cap, v = .slice p l.length cap ∧ ∀ k (h : k < l.length), ∃ g th, p = some ⟨g, 0, none⟩ ∧ g < w.heap.size ∧ w.cell? ⟨g, k * 2, none⟩ = some (.int .i64 (l[k].num : Nat)) ∧ w.cell? ⟨g, k * 2 + 1, none⟩ = some th ∧ ThingV w base l[k].thing th := by
  obtain ⟨cs, h1, h2⟩ := h
  obtain ⟨p, cap, hv⟩ := own_slice h1
  refine ⟨p, cap, hv, fun k hk => ?_⟩
  obtain ⟨g, cap', hv', _, hg, hc⟩ := row_open h1 (by omega)
  rw [hv] at hv'
  simp only [Value.slice.injEq] at hv'
  obtain ⟨th, g0, g1, g2⟩ := h2 k hk
  exact ⟨g, th, hv'.1, hg, hc _ _ g0, hc _ _ g1, g2⟩

/-- A thing's value is in one cell. -/
theorem ThingV.shape {w : World} {base : Nat} {y : Code.Thing} {v : Value} (h : ThingV w base y v) : ∃ T pv, v = .iface T pv := by
  cases y with
  | phi of => obtain ⟨r, h1, _⟩ := h; exact ⟨_, _, h1⟩
  | arg n => exact ⟨_, _, h⟩
  | const n => exact ⟨_, _, h⟩
  | apply k of => obtain ⟨r, h1, _⟩ := h; exact ⟨_, _, h1⟩

theorem lastV_shape (z : Code.Last) : ∃ T pv, lastV z = .iface T pv := by cases z <;> exact ⟨_, _, rfl⟩

namespace Code
/-- The set with all these values' numbers. -/
def addAll (R : List Bool) (l : List Val) : List Bool := l.foldl (fun R v => R.set v.num true) R

theorem addAll_length (R : List Bool) (l : List Val) : (addAll R l).length = R.length := by
  unfold addAll
  induction l generalizing R with
  | nil => rfl
  | cons v l ih => rw [List.foldl_cons, ih]; simp

theorem addAll_snoc (R : List Bool) (l : List Val) (k : Nat) (h : k < l.length) : addAll R (l.take (k + 1)) = (addAll R (l.take k)).set l[k].num true := by
  rw [List.take_add_one, List.getElem?_eq_getElem h, addAll, List.foldl_append]; rfl
end Code

set_option maxRecDepth 100000 in
set_option maxHeartbeats 1000000 in
theorem madeAtEnd_any (R : List Bool) (hR : R.length = 60) (l : List Code.Val) (hl : ∀ x ∈ l, x.num < 60) (hlen : l.length ≤ 100000) (v zv : Value) (base : Nat) (w : World) (hv : RepVals w base v l) (hz : ∃ T pv, zv = .iface T pv) :
    Calls Tryd.prog 62 #[.agg #[v, zv], .agg (setA R)] w fun e w' => e = .returned (.agg (setA (Code.addAll R l))) ∧ Below w.heap.size w w' := by
  obtain ⟨p, cap, rfl, hval⟩ := hv.open
  obtain ⟨T, pv, rfl⟩ := hz
  have HV := hide hval
  clear hval hv
  have hA := Code.addAll_length R l
  rw [hR] at hA
  have HL := hide (setSize (Code.addAll R l) hA)
  have HL' := hide (setSize' (Code.addAll R l) hA)
  have HO := hide (setOne (Code.addAll R l))
  go_enter Tryd.func62, Tryd.ntmps62
  go_wp2
  generalize hw0 : ((w.alloc _).alloc _).alloc _ = w0
  have hr1 : setRow w0 (w.heap.size + 1) R := by
    have h := heap_alloc_new (w.alloc (.cells #[.slice p l.length cap, .iface T pv] 72)) (.cells (setA R) 108)
    rw [alloc_size] at h
    rw [← hw0]; exact stay_alloc h
  have hr2 : setRow w0 (w.heap.size + 1 + 1) noNumber := by
    have h := heap_alloc_new ((w.alloc (.cells #[.slice p l.length cap, .iface T pv] 72)).alloc (.cells (setA R) 108)) (.cells (setA noNumber) 108)
    rw [alloc_size, alloc_size] at h
    rw [← hw0]; exact h
  have hb0 : Below w.heap.size w w0 := by rw [← hw0]; exact below_al (below_al (below_al (Below.refl _ _) _) _) _
  clear hw0
  go_loopw [10] (fun i wr => ∃ k : Nat, k ≤ l.length ∧ i = .int .i64 k ∧ setRow wr (w.heap.size + 1) (Code.addAll R (l.take k)) ∧ setRow wr (w.heap.size + 1 + 1) noNumber ∧ Below w.heap.size w wr) (fun i _ => l.length - (intOf i).toNat)
  case atStart => exact ⟨0, by omega, rfl, hr1, hr2, hb0⟩
  case round =>
    obtain ⟨k, hk, rfl, h1, h2, hbw⟩ := hrel
    clear hr1 hr2 hb0
    have hz := hbw.size
    by_cases hlt : k < l.length
    · obtain ⟨g, th, rfl, hg, c0, c1, hth⟩ := HV.out k hlt
      obtain ⟨T', pv', rfl⟩ := hth.shape
      have c0' : wr.cell? ⟨g, k * 2, none⟩ = some (.int .i64 (l[k].num : Nat)) := by rw [(bcell hbw).1 g _ hg]; exact c0
      have c1' : wr.cell? ⟨g, k * 2 + 1, none⟩ = some (.iface T' pv') := by rw [(bcell hbw).1 g _ hg]; exact c1
      have h60' := hl l[k] (List.getElem_mem hlt)
      have h60 : ((l[k].num : Nat) : Int) < 60 := by omega
      have HS := hide (Code.addAll_snoc R l k hlt)
      have hlA := Code.addAll_length R (l.take k)
      obtain ⟨b, hc⟩ : ∃ b, wr.cell? ⟨w.heap.size + 1, l[k].num, none⟩ = some b := ⟨_, h1.cell l[k].num (by omega)⟩
      have hf := blk_froz h1 l[k].num
      clear c0 c1 hth hlA
      have hlt1 := lt_of_block h1
      have hlt2 := lt_of_block h2
      go_wp2
      refine ⟨⟨k + 1, by omega, by go_num, ?_, stay_alloc (stay_set h2 (show w.heap.size + 1 + 1 ≠ w.heap.size + 1 by omega)), below_al (below_set hbw (by omega) _ _) _⟩, by simp [intOf]; omega⟩
      rw [HS.out]
      exact stay_alloc (h1.set _ true)
    · have hk60 : l.take k = l := List.take_of_length_le (by omega)
      rw [hk60] at h1
      clear hk60
      have HTH := hide h2.there
      generalize hBB : Code.addAll R l = B at *
      go_wp2_with (first | refine wpList_load_mid rfl 108 _ rfl (w.heap.size + 1) 0 rfl (setL B) _ h1.range Tryd.underlying108 rfl HL.out ?_ | refine wpList_store_mid rfl 108 _ _ rfl (w.heap.size + 1 + 1) 0 (setA B) rfl rfl ?_ HL'.out HO.out ?_)
      · have h := HTH.out
        rw [show noNumber.length = (setA B).size by simp [noNumber, setA, setL, hA]] at h
        exact h
      · have hp : setRow (wr.setCells (w.heap.size + 1 + 1) 0 (setA B).toList) (w.heap.size + 1 + 1) B := h2.put B (by simp [noNumber, hA])
        refine bodyPost_ret (v := .agg (setA B)) (results_cell_row rfl _ _ (w.heap.size + 1 + 1) 108 (setA B) _ _ rfl hp Tryd.underlying108 rfl HL'.out) rfl ?_
        exact ⟨by rw [hBB], below_cells hbw (by omega) _ _⟩

namespace Code
/-- Where a block goes on. -/
def tg : Last → List Nat
  | .ret _ => []
  | .jump t => [t]
  | .ifs _ t e => [t, e]

/-- What a block's last line uses. -/
def useL : Last → List Nat
  | .ret v => [v]
  | .jump _ => []
  | .ifs v _ _ => [v]

/-- What a thing uses where it stands. -/
def useT : Thing → List Nat
  | .apply _ of => of
  | _ => []
end Code

theorem own_nats1 (W : World) (x : Nat) {base g : Nat} (hg : g = W.heap.size) (hb : base ≤ g) : (W.alloc (.cells #[.int .i64 (x : Nat)] 3)).ownsRow base 3 1 (.slice (some ⟨g, 0, none⟩) 1 1) 1 (nats [x]) := by
  subst hg
  exact ⟨by simp [nats], Or.inr ⟨_, _, _, rfl, hb, heap_alloc_new W _, Nat.le_refl _, by decide, by simp, rfl⟩⟩

theorem own_nats2 (W : World) (x y : Nat) {base g : Nat} (hg : g = W.heap.size) (hb : base ≤ g) : (W.alloc (.cells #[.int .i64 (x : Nat), .int .i64 (y : Nat)] 3)).ownsRow base 3 1 (.slice (some ⟨g, 0, none⟩) 2 2) 2 (nats [x, y]) := by
  subst hg
  exact ⟨by simp [nats], Or.inr ⟨_, _, _, rfl, hb, heap_alloc_new W _, Nat.le_refl _, by decide, by simp, rfl⟩⟩

theorem isJump_ret (v : Value) (w : World) : (Instr.typeAssert (.iface 75 v) 70 101 true).run Tryd.prog w = .ok (.tuple #[.agg #[.int .i64 0], .bool false]) w := by kernel_rfl
theorem isJump_jump (v : Value) (w : World) : (Instr.typeAssert (.iface 101 v) 70 101 true).run Tryd.prog w = .ok (.tuple #[v, .bool true]) w := by kernel_rfl
theorem isJump_if (v : Value) (w : World) : (Instr.typeAssert (.iface 77 v) 70 101 true).run Tryd.prog w = .ok (.tuple #[.agg #[.int .i64 0], .bool false]) w := by kernel_rfl
theorem isIf_ret (v : Value) (w : World) : (Instr.typeAssert (.iface 75 v) 70 77 true).run Tryd.prog w = .ok (.tuple #[.agg #[.int .i64 0, .int .i64 0, .int .i64 0], .bool false]) w := by kernel_rfl
theorem isIf_jump (v : Value) (w : World) : (Instr.typeAssert (.iface 101 v) 70 77 true).run Tryd.prog w = .ok (.tuple #[.agg #[.int .i64 0, .int .i64 0, .int .i64 0], .bool false]) w := by kernel_rfl
theorem isIf_if (v : Value) (w : World) : (Instr.typeAssert (.iface 77 v) 70 77 true).run Tryd.prog w = .ok (.tuple #[v, .bool true]) w := by kernel_rfl
theorem isRet_ret (v : Value) (w : World) : (Instr.typeAssert (.iface 75 v) 70 75 true).run Tryd.prog w = .ok (.tuple #[v, .bool true]) w := by kernel_rfl
theorem isRet_jump (v : Value) (w : World) : (Instr.typeAssert (.iface 101 v) 70 75 true).run Tryd.prog w = .ok (.tuple #[.agg #[.int .i64 0], .bool false]) w := by kernel_rfl
theorem isRet_if (v : Value) (w : World) : (Instr.typeAssert (.iface 77 v) 70 75 true).run Tryd.prog w = .ok (.tuple #[.agg #[.int .i64 0], .bool false]) w := by kernel_rfl
theorem isApply_phi (v : Value) (w : World) : (Instr.typeAssert (.iface 90 v) 86 97 true).run Tryd.prog w = .ok (.tuple #[.agg #[.int .i64 0, .slice none 0 0], .bool false]) w := by kernel_rfl
theorem isApply_arg (v : Value) (w : World) : (Instr.typeAssert (.iface 92 v) 86 97 true).run Tryd.prog w = .ok (.tuple #[.agg #[.int .i64 0, .slice none 0 0], .bool false]) w := by kernel_rfl
theorem isApply_const (v : Value) (w : World) : (Instr.typeAssert (.iface 94 v) 86 97 true).run Tryd.prog w = .ok (.tuple #[.agg #[.int .i64 0, .slice none 0 0], .bool false]) w := by kernel_rfl
theorem isApply_apply (v : Value) (w : World) : (Instr.typeAssert (.iface 97 v) 86 97 true).run Tryd.prog w = .ok (.tuple #[v, .bool true]) w := by kernel_rfl

set_option maxHeartbeats 1000000 in
theorem targets_any (z : Code.Last) (w : World) :
    Calls Tryd.prog 27 #[lastV z] w fun e w' => ∃ v, e = .returned v ∧ w'.ownsRow w.heap.size 3 1 v (Code.tg z).length (nats (Code.tg z)) ∧ Below w.heap.size w w' := by
  cases z with
  | ret v =>
    have h1 := isJump_ret
    have h2 := isIf_ret
    unfold lastV
    go_enter Tryd.func27, Tryd.ntmps27
    go_wp2
    go_ret
    exact ⟨_, rfl, World.ownsRow_nil _ _ _ _, Below.refl _ _⟩
  | jump t =>
    have h1 := isJump_jump
    unfold lastV
    go_enter Tryd.func27, Tryd.ntmps27
    go_wp2
    go_ret
    exact ⟨_, rfl, own_nats1 _ t (alloc_size _ _).symm (Nat.le_succ _), below_al (below_al (Below.refl _ _) _) _⟩
  | ifs v x y =>
    have h1 := isJump_if
    have h2 := isIf_if
    unfold lastV
    go_enter Tryd.func27, Tryd.ntmps27
    go_wp2
    go_ret
    exact ⟨_, rfl, own_nats2 _ x y (alloc_size _ _).symm (Nat.le_succ _), below_al (below_al (Below.refl _ _) _) _⟩

set_option maxHeartbeats 1000000 in
theorem usesOfLast_any (z : Code.Last) (w : World) :
    Calls Tryd.prog 49 #[lastV z] w fun e w' => ∃ v, e = .returned v ∧ w'.ownsRow w.heap.size 3 1 v (Code.useL z).length (nats (Code.useL z)) ∧ Below w.heap.size w w' := by
  cases z with
  | ret v =>
    have h1 := isRet_ret
    unfold lastV
    go_enter Tryd.func49, Tryd.ntmps49
    go_wp2
    go_ret
    exact ⟨_, rfl, own_nats1 _ v (alloc_size _ _).symm (Nat.le_succ _), below_al (below_al (Below.refl _ _) _) _⟩
  | jump t =>
    have h1 := isRet_jump
    have h2 := isIf_jump
    unfold lastV
    go_enter Tryd.func49, Tryd.ntmps49
    go_wp2
    go_ret
    exact ⟨_, rfl, World.ownsRow_nil _ _ _ _, Below.refl _ _⟩
  | ifs v x y =>
    have h1 := isRet_if
    have h2 := isIf_if
    unfold lastV
    go_enter Tryd.func49, Tryd.ntmps49
    go_wp2
    go_ret
    exact ⟨_, rfl, own_nats1 _ v (alloc_size _ _).symm (Nat.le_succ _), below_al (below_al (Below.refl _ _) _) _⟩

set_option maxHeartbeats 1000000 in
theorem usesInPlace_any (y : Code.Thing) (v : Value) (base : Nat) (w : World) (hy : ThingV w base y v) :
    Calls Tryd.prog 48 #[v] w fun e w' => ∃ r, e = .returned r ∧ w'.ownsRow base 3 1 r (Code.useT y).length (nats (Code.useT y)) ∧ Below w.heap.size w w' := by
  cases y with
  | phi of =>
    obtain ⟨r, rfl, hr⟩ := hy
    have h1 := isApply_phi
    go_enter Tryd.func48, Tryd.ntmps48
    go_wp2
    go_ret
    exact ⟨_, rfl, World.ownsRow_nil _ _ _ _, Below.refl _ _⟩
  | arg n =>
    have hy' : v = _ := hy
    subst hy'
    have h1 := isApply_arg
    go_enter Tryd.func48, Tryd.ntmps48
    go_wp2
    go_ret
    exact ⟨_, rfl, World.ownsRow_nil _ _ _ _, Below.refl _ _⟩
  | const n =>
    have hy' : v = _ := hy
    subst hy'
    have h1 := isApply_const
    go_enter Tryd.func48, Tryd.ntmps48
    go_wp2
    go_ret
    exact ⟨_, rfl, World.ownsRow_nil _ _ _ _, Below.refl _ _⟩
  | apply k of =>
    obtain ⟨r, rfl, hr⟩ := hy
    obtain ⟨p, c, rfl⟩ := own_slice hr
    have h1 := isApply_apply
    go_enter Tryd.func48, Tryd.ntmps48
    go_wp2
    go_ret
    exact ⟨_, rfl, hr.alloc _, below_al (Below.refl _ _) _⟩
end Go.Proofs.YtdffpkmabehfbaaDoor
