/-
  Parts of the proof: CSet3, CMap, CEdges, COnce, CReach, CPhis.
-/
import Derived.Test.YtedkjanogjglkaaGreatDoorP03
import Derived.Maps.Own
import Derived.Maps.OwnOps
import Derived.Maps.Views
import Derived.DeepKeys4
import Derived.BigQuiet
set_option maxRecDepth 100000
set_option maxHeartbeats 4000000
namespace Go.Proofs.YtedkjanogjglkaaGreatDoor
open Go.RowKit
theorem RepVals.open {w : World} {base : Nat} {v : Value} {l : List Code.Val} (h : RepVals w base v l) :
  ∃ p cap, v = .slice p l.length cap /\ ∀ k (h : k < l.length), ∃ g th, p = some ⟨g, 0, none⟩ /\ g < w.heap.size /\ w.cell? ⟨g, k * 2, none⟩ = some (.int .i64 (l[k].num : Nat)) /\ w.cell? ⟨g, k * 2 + 1, none⟩ = some th /\ ThingV w base l[k].thing th := by
 obtain ⟨cs, h1, h2⟩ := h
 obtain ⟨p, cap, hv⟩ := own_slice h1
 refine ⟨p, cap, hv, fun k hk => ?_⟩
 obtain ⟨g, cap', hv', _, hg, hc⟩ := row_open h1 (by omega)
 rw [hv] at hv'
 simp only [Value.slice.injEq] at hv'
 obtain ⟨th, g0, g1, g2⟩ := h2 k hk
 exact ⟨g, th, hv'.1, hg, hc _ _ g0, hc _ _ g1, g2⟩
theorem ThingV.shape {w : World} {base : Nat} {y : Code.Thing} {v : Value} (h : ThingV w base y v) : ∃ T pv, v = .iface T pv := by
 cases y with
 | phi of => obtain ⟨r, h1, _⟩ := h; exact ⟨_, _, h1⟩
 | arg n => exact ⟨_, _, h⟩
 | const n => exact ⟨_, _, h⟩
 | apply k of => obtain ⟨r, h1, _⟩ := h; exact ⟨_, _, h1⟩
theorem lastV_shape (z : Code.Last) : ∃ T pv, lastV z = .iface T pv := by cases z <;> exact ⟨_, _, rfl⟩
namespace Code
def addAll (R : List Bool) (l : List Val) : List Bool := l.foldl (fun R v => R.set v.num true) R
theorem addAll_length (R : List Bool) (l : List Val) : (addAll R l).length = R.length := by
 unfold addAll
 induction l generalizing R with
 | nil => rfl
 | cons v l ih => rw [List.foldl_cons, ih]; simp
theorem addAll_snoc (R : List Bool) (l : List Val) (k : Nat) (h : k < l.length) : addAll R (l.take (k + 1)) = (addAll R (l.take k)).set l[k].num true := by
 rw [List.take_add_one, List.getElem?_eq_getElem h, addAll, List.foldl_append]; rfl
end Code
theorem madeAtEnd_any (R : List Bool) (hR : R.length = 60) (l : List Code.Val) (hl : ∀ x ∈ l, x.num < 60) (hlen : l.length <= 100000) (v zv : Value) (base : Nat) (w : World) (hv : RepVals w base v l) (hz : ∃ T pv, zv = .iface T pv) :
  Calls Tryz.prog 203 #[.agg #[v, zv], .agg (setA R)] w fun e w' => e = .returned (.agg (setA (Code.addAll R l))) /\ Below w.heap.size w w' := by
 obtain ⟨p, cap, rfl, hval⟩ := hv.open
 obtain ⟨T, pv, rfl⟩ := hz
 have HV := hide hval
 clear hval hv
 have hA := Code.addAll_length R l
 rw [hR] at hA
 have HL := hide (setSize (Code.addAll R l) hA)
 have HL' := hide (setSize' (Code.addAll R l) hA)
 have HO := hide (setOne (Code.addAll R l))
 go_enter Tryz.func203, Tryz.ntmps203
 go_wp2
 generalize hw0 : ((w.alloc _).alloc _).alloc _ = w0
 have hr1 : setRow w0 (w.heap.size + 1) R := by
  have h := heap_alloc_new (w.alloc (.cells #[.slice p l.length cap, .iface T pv] 165)) (.cells (setA R) 281)
  rw [alloc_size] at h
  rw [<- hw0]; exact stay_alloc h
 have hr2 : setRow w0 (w.heap.size + 1 + 1) noNumber := by
  have h := heap_alloc_new ((w.alloc (.cells #[.slice p l.length cap, .iface T pv] 165)).alloc (.cells (setA R) 281)) (.cells (setA noNumber) 281)
  rw [alloc_size, alloc_size] at h
  rw [<- hw0]; exact h
 have hb0 : Below w.heap.size w w0 := by rw [<- hw0]; exact below_al (below_al (below_al (Below.refl _ _) _) _) _
 clear hw0
 go_loopw [10] (fun i wr => ∃ k : Nat, k <= l.length /\ i = .int .i64 k /\ setRow wr (w.heap.size + 1) (Code.addAll R (l.take k)) /\ setRow wr (w.heap.size + 1 + 1) noNumber /\ Below w.heap.size w wr) (fun i _ => l.length - (intOf i).toNat)
 case atStart => exact ⟨0, by omega, rfl, hr1, hr2, hb0⟩
 case round =>
  obtain ⟨k, hk, rfl, h1, h2, hbw⟩ := hrel
  clear hr1 hr2 hb0
  have hz := hbw.size
  by_cases hlt : k < l.length
  ·obtain ⟨g, th, rfl, hg, c0, c1, hth⟩ := HV.out k hlt
   obtain ⟨T', pv', rfl⟩ := hth.shape
   have c0' : wr.cell? ⟨g, k * 2, none⟩ = some (.int .i64 (l[k].num : Nat)) := by rw [(bcell hbw).1 g _ hg]; exact c0
   have c1' : wr.cell? ⟨g, k * 2 + 1, none⟩ = some (.iface T' pv') := by rw [(bcell hbw).1 g _ hg]; exact c1
   have h60' := hl l[k] (List.getElem_mem hlt)
   have h60 : ((l[k].num : Nat) : Int) < 60 := by omega
   have HS := hide (Code.addAll_snoc R l k hlt)
   have hlA := Code.addAll_length R (l.take k)
   obtain ⟨b, hc⟩ : ∃ b, wr.cell? ⟨w.heap.size + 1, l[k].num, none⟩ = some b := ⟨_, h1.cell l[k].num (by omega)⟩
   have hf := blk_froz h1 l[k].num
   clear c0 c1 hth hlA
   have hlt1 := lt_of_block h1
   have hlt2 := lt_of_block h2
   go_wp2
   refine ⟨⟨k + 1, by omega, by go_num, ?_, stay_alloc (stay_set h2 (show w.heap.size + 1 + 1 ≠ w.heap.size + 1 by omega)), below_al (below_set hbw (by omega) _ _) _⟩, by simp [intOf]; omega⟩
   rw [HS.out]
   exact stay_alloc (h1.set _ true)
  ·have hk60 : l.take k = l := List.take_of_length_le (by omega)
   rw [hk60] at h1
   clear hk60
   have HTH := hide h2.there
   generalize hBB : Code.addAll R l = B at *
   go_wp2_with (first | refine wpList_load_mid rfl 281 _ rfl (w.heap.size + 1) 0 rfl (setL B) _ h1.range Tryz.underlying281 rfl HL.out ?_ | refine wpList_store_mid rfl 281 _ _ rfl (w.heap.size + 1 + 1) 0 (setA B) rfl rfl ?_ HL'.out HO.out ?_)
   ·have h := HTH.out
    rw [show noNumber.length = (setA B).size by simp [noNumber, setA, setL, hA]] at h
    exact h
   ·have hp : setRow (wr.setCells (w.heap.size + 1 + 1) 0 (setA B).toList) (w.heap.size + 1 + 1) B := h2.put B (by simp [noNumber, hA])
    refine bodyPost_ret (v := .agg (setA B)) (results_cell_row rfl _ _ (w.heap.size + 1 + 1) 281 (setA B) _ _ rfl hp Tryz.underlying281 rfl HL'.out) rfl ?_
    exact ⟨by rw [hBB], below_cells hbw (by omega) _ _⟩
namespace Code
def tg : Last -> List Nat
 | .ret _ => []
 | .jump t => [t]
 | .ifs _ t e => [t, e]
def useL : Last -> List Nat
 | .ret v => [v]
 | .jump _ => []
 | .ifs v _ _ => [v]
def useT : Thing -> List Nat
 | .apply _ of => of
 | _ => []
end Code
theorem own_nats1 (W : World) (x : Nat) {base g : Nat} (hg : g = W.heap.size) (hb : base <= g) : (W.alloc (.cells #[.int .i64 (x : Nat)] 3)).ownsRow base 3 1 (.slice (some ⟨g, 0, none⟩) 1 1) 1 (nats [x]) := by
 subst hg
 exact ⟨by simp [nats], Or.inr ⟨_, _, _, rfl, hb, heap_alloc_new W _, Nat.le_refl _, by decide, by simp, rfl⟩⟩
theorem own_nats2 (W : World) (x y : Nat) {base g : Nat} (hg : g = W.heap.size) (hb : base <= g) : (W.alloc (.cells #[.int .i64 (x : Nat), .int .i64 (y : Nat)] 3)).ownsRow base 3 1 (.slice (some ⟨g, 0, none⟩) 2 2) 2 (nats [x, y]) := by
 subst hg
 exact ⟨by simp [nats], Or.inr ⟨_, _, _, rfl, hb, heap_alloc_new W _, Nat.le_refl _, by decide, by simp, rfl⟩⟩
theorem isJump_ret (v : Value) (w : World) : (Instr.typeAssert (.iface 240 v) 163 242 true).run Tryz.prog w = .ok (.tuple #[.agg #[.int .i64 0], .bool false]) w := by kernel_rfl
theorem isJump_jump (v : Value) (w : World) : (Instr.typeAssert (.iface 242 v) 163 242 true).run Tryz.prog w = .ok (.tuple #[v, .bool true]) w := by kernel_rfl
theorem isJump_if (v : Value) (w : World) : (Instr.typeAssert (.iface 244 v) 163 242 true).run Tryz.prog w = .ok (.tuple #[.agg #[.int .i64 0], .bool false]) w := by kernel_rfl
theorem isIf_ret (v : Value) (w : World) : (Instr.typeAssert (.iface 240 v) 163 244 true).run Tryz.prog w = .ok (.tuple #[.agg #[.int .i64 0, .int .i64 0, .int .i64 0], .bool false]) w := by kernel_rfl
theorem isIf_jump (v : Value) (w : World) : (Instr.typeAssert (.iface 242 v) 163 244 true).run Tryz.prog w = .ok (.tuple #[.agg #[.int .i64 0, .int .i64 0, .int .i64 0], .bool false]) w := by kernel_rfl
theorem isIf_if (v : Value) (w : World) : (Instr.typeAssert (.iface 244 v) 163 244 true).run Tryz.prog w = .ok (.tuple #[v, .bool true]) w := by kernel_rfl
theorem isRet_ret (v : Value) (w : World) : (Instr.typeAssert (.iface 240 v) 163 240 true).run Tryz.prog w = .ok (.tuple #[v, .bool true]) w := by kernel_rfl
theorem isRet_jump (v : Value) (w : World) : (Instr.typeAssert (.iface 242 v) 163 240 true).run Tryz.prog w = .ok (.tuple #[.agg #[.int .i64 0], .bool false]) w := by kernel_rfl
theorem isRet_if (v : Value) (w : World) : (Instr.typeAssert (.iface 244 v) 163 240 true).run Tryz.prog w = .ok (.tuple #[.agg #[.int .i64 0], .bool false]) w := by kernel_rfl
theorem isApply_phi (v : Value) (w : World) : (Instr.typeAssert (.iface 232 v) 167 238 true).run Tryz.prog w = .ok (.tuple #[.agg #[.int .i64 0, .slice none 0 0], .bool false]) w := by kernel_rfl
theorem isApply_arg (v : Value) (w : World) : (Instr.typeAssert (.iface 234 v) 167 238 true).run Tryz.prog w = .ok (.tuple #[.agg #[.int .i64 0, .slice none 0 0], .bool false]) w := by kernel_rfl
theorem isApply_const (v : Value) (w : World) : (Instr.typeAssert (.iface 236 v) 167 238 true).run Tryz.prog w = .ok (.tuple #[.agg #[.int .i64 0, .slice none 0 0], .bool false]) w := by kernel_rfl
theorem isApply_apply (v : Value) (w : World) : (Instr.typeAssert (.iface 238 v) 167 238 true).run Tryz.prog w = .ok (.tuple #[v, .bool true]) w := by kernel_rfl
theorem targets_any (z : Code.Last) (w : World) :
  Calls Tryz.prog 144 #[lastV z] w fun e w' => ∃ v, e = .returned v /\ w'.ownsRow w.heap.size 3 1 v (Code.tg z).length (nats (Code.tg z)) /\ Below w.heap.size w w' := by
 cases z with
 | ret v =>
  have h1 := isJump_ret
  have h2 := isIf_ret
  unfold lastV
  go_enter Tryz.func144, Tryz.ntmps144
  go_wp2
  go_ret
  exact ⟨_, rfl, World.ownsRow_nil _ _ _ _, Below.refl _ _⟩
 | jump t =>
  have h1 := isJump_jump
  unfold lastV
  go_enter Tryz.func144, Tryz.ntmps144
  go_wp2
  go_ret
  exact ⟨_, rfl, own_nats1 _ t (alloc_size _ _).symm (Nat.le_succ _), below_al (below_al (Below.refl _ _) _) _⟩
 | ifs v x y =>
  have h1 := isJump_if
  have h2 := isIf_if
  unfold lastV
  go_enter Tryz.func144, Tryz.ntmps144
  go_wp2
  go_ret
  exact ⟨_, rfl, own_nats2 _ x y (alloc_size _ _).symm (Nat.le_succ _), below_al (below_al (Below.refl _ _) _) _⟩
theorem usesOfLast_any (z : Code.Last) (w : World) :
  Calls Tryz.prog 167 #[lastV z] w fun e w' => ∃ v, e = .returned v /\ w'.ownsRow w.heap.size 3 1 v (Code.useL z).length (nats (Code.useL z)) /\ Below w.heap.size w w' := by
 cases z with
 | ret v =>
  have h1 := isRet_ret
  unfold lastV
  go_enter Tryz.func167, Tryz.ntmps167
  go_wp2
  go_ret
  exact ⟨_, rfl, own_nats1 _ v (alloc_size _ _).symm (Nat.le_succ _), below_al (below_al (Below.refl _ _) _) _⟩
 | jump t =>
  have h1 := isRet_jump
  have h2 := isIf_jump
  unfold lastV
  go_enter Tryz.func167, Tryz.ntmps167
  go_wp2
  go_ret
  exact ⟨_, rfl, World.ownsRow_nil _ _ _ _, Below.refl _ _⟩
 | ifs v x y =>
  have h1 := isRet_if
  have h2 := isIf_if
  unfold lastV
  go_enter Tryz.func167, Tryz.ntmps167
  go_wp2
  go_ret
  exact ⟨_, rfl, own_nats1 _ v (alloc_size _ _).symm (Nat.le_succ _), below_al (below_al (Below.refl _ _) _) _⟩
theorem usesInPlace_any (y : Code.Thing) (v : Value) (base : Nat) (w : World) (hy : ThingV w base y v) :
  Calls Tryz.prog 166 #[v] w fun e w' => ∃ r, e = .returned r /\ w'.ownsRow base 3 1 r (Code.useT y).length (nats (Code.useT y)) /\ Below w.heap.size w w' := by
 cases y with
 | phi of =>
  obtain ⟨r, rfl, hr⟩ := hy
  have h1 := isApply_phi
  go_enter Tryz.func166, Tryz.ntmps166
  go_wp2
  go_ret
  exact ⟨_, rfl, World.ownsRow_nil _ _ _ _, Below.refl _ _⟩
 | arg n =>
  have hy' : v = _ := hy
  subst hy'
  have h1 := isApply_arg
  go_enter Tryz.func166, Tryz.ntmps166
  go_wp2
  go_ret
  exact ⟨_, rfl, World.ownsRow_nil _ _ _ _, Below.refl _ _⟩
 | const n =>
  have hy' : v = _ := hy
  subst hy'
  have h1 := isApply_const
  go_enter Tryz.func166, Tryz.ntmps166
  go_wp2
  go_ret
  exact ⟨_, rfl, World.ownsRow_nil _ _ _ _, Below.refl _ _⟩
 | apply k of =>
  obtain ⟨r, rfl, hr⟩ := hy
  obtain ⟨p, c, rfl⟩ := own_slice hr
  have h1 := isApply_apply
  go_enter Tryz.func166, Tryz.ntmps166
  go_wp2
  go_ret
  exact ⟨_, rfl, hr.alloc _, below_al (Below.refl _ _) _⟩
theorem laidOutP : laidOutB Tryz.prog = true := by kernel_rfl
theorem rowEdge : (256 : TypeId) < Tryz.prog.types.size := of_decide_eq_true (by kernel_rfl)
theorem wideEdge : (match Tryz.prog.underlying 256 with | some (.array _ _) | some (.struct _) => true | _ => false) = true := by kernel_rfl
theorem lawEdge : WideMaps.KeyLaw Tryz.prog 256 := deep_law_laid laidOutP (m := 2) (by omega) rowEdge (by kernel_rfl) wideEdge
theorem keyedEdge : Maps.Keyed Tryz.prog 256 := Maps.Keyed.of_law lawEdge
def edgeV (x y : Nat) : Value := .agg #[.int .i64 (x : Nat), .int .i64 (y : Nat)]
theorem edgeV_inj {x y x' y' : Nat} (h : edgeV x y = edgeV x' y') : x = x' /\ y = y' := by
 simp [edgeV] at h
 omega
theorem edge_key (x y : Nat) (hx : x < 8) (hy : y < 2) : ∃ kl, keyOf Tryz.prog 256 (edgeV x y) = some kl := by
 have h : (keyOf Tryz.prog 256 (edgeV x y)).isSome = true := by
  match x, y, hx, hy with
  | 0, 0, _, _ =>
   show _ = _
   kernel_rfl
  | 0, 1, _, _ =>
   show _ = _
   kernel_rfl
  | 1, 0, _, _ =>
   show _ = _
   kernel_rfl
  | 1, 1, _, _ =>
   show _ = _
   kernel_rfl
  | 2, 0, _, _ =>
   show _ = _
   kernel_rfl
  | 2, 1, _, _ =>
   show _ = _
   kernel_rfl
  | 3, 0, _, _ =>
   show _ = _
   kernel_rfl
  | 3, 1, _, _ =>
   show _ = _
   kernel_rfl
  | 4, 0, _, _ =>
   show _ = _
   kernel_rfl
  | 4, 1, _, _ =>
   show _ = _
   kernel_rfl
  | 5, 0, _, _ =>
   show _ = _
   kernel_rfl
  | 5, 1, _, _ =>
   show _ = _
   kernel_rfl
  | 6, 0, _, _ =>
   show _ = _
   kernel_rfl
  | 6, 1, _, _ =>
   show _ = _
   kernel_rfl
  | 7, 0, _, _ =>
   show _ = _
   kernel_rfl
  | 7, 1, _, _ =>
   show _ = _
   kernel_rfl
 exact Option.isSome_iff_exists.1 h
def EMap (w : World) (b n : Nat) (m : Nat -> Nat -> Nat) : Prop :=
 ∃ D : DataW Unit, w.ownsMap Tryz.prog 256 (plainElem Tryz.prog 3) b n D /\ Maps.IsMap D /\
  ∀ x y, x < 8 -> y < 2 -> ∀ kl, keyOf Tryz.prog 256 (edgeV x y) = some kl -> D.atKey kl (.lit (.int .i64 0)) = .lit (.int .i64 (m x y : Nat))
def put2 (m : Nat -> Nat -> Nat) (x y v : Nat) : Nat -> Nat -> Nat := fun a b => if a = x /\ b = y then v else m a b
theorem EMap.made (w : World) : EMap (w.alloc (.map #[] 0)) w.heap.size 0 (fun _ _ => 0) :=
 ⟨.map [], World.ownsMap_made w _ _ _, ⟨[], rfl⟩, fun _ _ _ _ _ _ => rfl⟩
theorem EMap.kept {w w' : World} {b n : Nat} {m : Nat -> Nat -> Nat} {row : Option Nat} (h : EMap w b n m) (hg : w.grownBy w' row) (hne : some b ≠ row) : EMap w' b n m := by
 obtain ⟨D, h1, h2, h3⟩ := h
 exact ⟨D, h1.kept hg hne, h2, h3⟩
theorem EMap.lt {w : World} {b n : Nat} {m : Nat -> Nat -> Nat} (h : EMap w b n m) : b < w.heap.size := by
 obtain ⟨D, h1, _⟩ := h
 exact h1.lt
theorem EMap.below {w w' : World} {b n : Nat} {m : Nat -> Nat -> Nat} (h : EMap w b n m) (hb : Below w.heap.size w w') : EMap w' b n m :=
 h.kept (row := none) ⟨hb.os, hb.tape, hb.output, hb.size, fun k hk _ => hb.block k hk⟩ (by simp)
theorem nat_wf (n : Nat) (h : n <= 1000000) : (Lit.int .i64 (n : Nat)).wf = true := by
 have hmin : IntKind.i64.min = -9223372036854775808 := rfl
 have hmax : IntKind.i64.max = 9223372036854775807 := rfl
 simp only [Lit.wf, Bool.and_eq_true, decide_eq_true_eq]; omega
theorem zeroInt (w : World) : (zeroValue 3).run Tryz.prog w = .ok (.int .i64 0) w := by kernel_rfl
theorem EMap.look {w : World} {b n : Nat} {m : Nat -> Nat -> Nat} (h : EMap w b n m) (x y : Nat) (hx : x < 8) (hy : y < 2) :
  (Instr.lookup 251 (.map (some b)) (edgeV x y) false).run Tryz.prog w = .ok (.int .i64 (m x y : Nat)) w := by
 obtain ⟨D, h1, h2, h3⟩ := h
 obtain ⟨kl, hk⟩ := edge_key x y hx hy
 obtain ⟨c, g1, g2, _⟩ := h1.lookup_int keyedEdge Tryz.underlying251 Tryz.underlying3 (zeroInt w) hk
 have := h3 x y hx hy kl hk
 rw [g2] at this
 simp only [DataW.lit.injEq, Lit.int.injEq, true_and] at this
 rw [g1, this]
theorem EMap.put {w : World} {b n : Nat} {m : Nat -> Nat -> Nat} (h : EMap w b n m) (hn : n <= 1000) (x y v : Nat) (hx : x < 8) (hy : y < 2) (hv : v <= 1000000) :
  ∃ w', (Instr.mapUpdate 251 (.map (some b)) (edgeV x y) (.int .i64 (v : Nat))).run Tryz.prog w = .ok () w' /\ EMap w' b (n + 1) (put2 m x y v) /\ w.grownBy w' (some b) := by
 obtain ⟨D, h1, h2, h3⟩ := h
 obtain ⟨kl, hk⟩ := edge_key x y hx hy
 obtain ⟨w', g1, g2, g3⟩ := h1.update keyedEdge Tryz.underlying251 (by unfold maxLen; omega) hk (plainElem_int Tryz.underlying3 (nat_wf v hv))
 refine ⟨w', g1, ⟨_, g2, ?_, fun x' y' hx' hy' kl' hk' => ?_⟩, g3⟩
 ·obtain ⟨es, rfl⟩ := h2
  exact ⟨_, rfl⟩
 ·unfold put2
  by_cases he : x' = x /\ y' = y
  ·obtain ⟨rfl, rfl⟩ := he
   rw [hk] at hk'
   cases hk'
   rw [Maps.atKey_put_same h2 (keyedEdge.key hk)]
   simp
  ·rw [if_neg he, Maps.atKey_put_other (fun e => he ?_)]
   ·exact h3 x' y' hx' hy' kl' hk'
   ·subst e
    exact edgeV_inj (keyedEdge.inj hk' hk)
namespace Code
def edgesTo (i : Nat) : List Nat -> Nat -> List (Nat × Nat × Nat)
 | [], _ => []
 | t :: r, k => (i, k, t) :: edgesTo i r (k + 1)
def edgesGo : List Blk -> Nat -> List (Nat × Nat × Nat)
 | [], _ => []
 | b :: r, i => edgesTo i (tg b.last) 0 ++ edgesGo r (i + 1)
structure Edges where
 counts : List Nat
 places : Nat -> Nat -> Nat
def Edges.add (E : Edges) (e : Nat × Nat × Nat) : Edges := ⟨E.counts.set e.2.2 (E.counts.getD e.2.2 0 + 1), put2 E.places e.1 e.2.1 (E.counts.getD e.2.2 0)⟩
def edges (bks : List Blk) : Edges := (edgesGo bks 0).foldl Edges.add ⟨List.replicate bks.length 0, fun _ _ => 0⟩
theorem add_length (E : Edges) (e : Nat × Nat × Nat) : (E.add e).counts.length = E.counts.length := by simp [Edges.add]
theorem tg_length (z : Last) : (tg z).length <= 2 := by cases z <;> simp [tg]
theorem counts_range (E : Edges) (n : Nat) (h : ∀ x ∈ E.counts, x <= n) (e : Nat × Nat × Nat) : ∀ x ∈ (E.add e).counts, x <= n + 1 := by
 intro x hx
 rcases List.mem_or_eq_of_mem_set hx with hx | rfl
 ·have := h x hx; omega
 ·by_cases hl : e.2.2 < E.counts.length
  ·have := h _ (List.getElem_mem hl)
   rw [List.getD_eq_getElem?_getD, List.getElem?_eq_getElem hl]
   simp only [Option.getD_some]; omega
  ·rw [List.getD_eq_getElem?_getD, List.getElem?_eq_none (by omega)]
   simp
end Code
theorem RepBlks.open {w : World} {base : Nat} {v : Value} {l : List Code.Blk} (h : RepBlks w base v l) :
  ∃ p cap, v = .slice p l.length cap /\ ∀ k (h : k < l.length), ∃ g vs, p = some ⟨g, 0, none⟩ /\ g < w.heap.size /\ w.cell? ⟨g, k * 2, none⟩ = some vs /\ w.cell? ⟨g, k * 2 + 1, none⟩ = some (lastV l[k].last) /\ RepVals w base vs l[k].values := by
 obtain ⟨cs, h1, h2⟩ := h
 obtain ⟨p, cap, hv⟩ := own_slice h1
 refine ⟨p, cap, hv, fun k hk => ?_⟩
 obtain ⟨g, cap', hv', _, hg, hc⟩ := row_open h1 (by omega)
 rw [hv] at hv'
 simp only [Value.slice.injEq] at hv'
 obtain ⟨vs, g0, g1, g2⟩ := h2 k hk
 exact ⟨g, vs, hv'.1, hg, hc _ _ g0, hc _ _ g1, g2⟩
theorem own_at {w w' : World} {base e size n : Nat} {v : Value} {xs : List Value} (h : w.ownsRow base e size v n xs) (hb : ∀ b, v.ownBlock = some b -> w'.heap[b]? = w.heap[b]?) : w'.ownsRow base e size v n xs := by
 refine ⟨h.1, ?_⟩
 rcases h.2 with h0 | ⟨g, cap, cur, hv, hbg, hgg, r⟩
 ·exact Or.inl h0
 ·exact Or.inr ⟨g, cap, cur, hv, hbg, by rw [hb g (by rw [hv]; rfl)]; exact hgg, r⟩
theorem edges_any (args : Nat) (bks : List Code.Blk) (p : Option Addr) (c : Nat) (base : Nat) (w : World) (hf : RepBlks w base (.slice p bks.length c) bks) (hn : bks.length <= 8) (ht : ∀ b ∈ bks, ∀ t ∈ Code.tg b.last, t < bks.length) :
  Calls Tryz.prog 140 #[.agg #[.int .i64 (args : Nat), .slice p bks.length c]] w fun e w' =>
   ∃ mb g n, e = .returned (.tuple #[.map (some mb), .slice (some ⟨g, 0, none⟩) bks.length bks.length]) /\ w.heap.size <= mb /\ w.heap.size <= g /\ EMap w' mb n (Code.edges bks).places /\ natRow w' g (Code.edges bks).counts /\ Below w.heap.size w w' := by
 obtain ⟨i0, hi, hi0, hi1, hi2⟩ := info_parts infoInt
 have HF := hide hf
 have HTG := hide ht
 clear hf ht
 have hmk : ∀ w : World, (Instr.makeMap 251 none).run Tryz.prog w = .ok (.map (some w.heap.size)) (w.alloc (.map #[] 0)) := fun w => by kernel_rfl
 go_enter Tryz.func140, Tryz.ntmps140
 go_wp2_with (first | (at_make; refine wpList_make_full _ rfl _ _ 31 rfl w.heap.size 3 i0 (.int .i64 0) 1 Tryz.underlying31 hi hi0 hi1 .i64 .i64 _ _ bks.length rfl rfl rfl rfl (by rw [hi2]; omega) (by unfold maxLen; omega) (by simp; omega) ?_; intro w2 hown2 hgrow2; have hnr2 := natRow_made hown2; rw [alloc_size, alloc_size] at hnr2; have hbx : w2.heap[w.heap.size]? = some (.cells #[.int .i64 (args : Nat), .slice p bks.length c] 78) := (hgrow2.block _ (by simp; omega) (by simp)).trans (stay_alloc (heap_alloc_new w _)); have hc1 := blk_cell hbx 1 _ rfl))
 have hb2 : Below w.heap.size w w2 := by
  have h := below_al (below_al (Below.refl w.heap.size w) (.cells #[.int .i64 (args : Nat), .slice p bks.length c] 78)) (.map #[] 0)
  exact h.trans ⟨hgrow2.os, hgrow2.tape, hgrow2.output, hgrow2.size, fun k hk => hgrow2.block k (by simp; omega) (by simp)⟩
 have hE2 : EMap w2 (w.heap.size + 1) 0 (fun _ _ => 0) := by
  have h := EMap.made (w.alloc (.cells #[.int .i64 (args : Nat), .slice p bks.length c] 78))
  rw [alloc_size] at h
  exact h.kept hgrow2 (by simp)
 clear hown2 hgrow2 hbx hc1
 obtain ⟨p', c', hpe, hblk⟩ := HF.out.open
 simp only [Value.slice.injEq] at hpe
 obtain ⟨rfl, _, rfl⟩ := hpe
 have HBLK := hide hblk
 clear hblk
 go_loopw [18] (fun i wr => ∃ (j n : Nat) (E : Code.Edges), j <= bks.length /\ i = .int .i64 j /\ n <= 2 * j /\ E.counts.length = bks.length /\ (∀ x ∈ E.counts, x <= n) /\ EMap wr (w.heap.size + 1) n E.places /\ natRow wr (w.heap.size + 1 + 1) E.counts /\ Below w.heap.size w wr /\
   Hid ((Code.edgesGo (bks.drop j) j).foldl Code.Edges.add E = Code.edges bks)) (fun i _ => bks.length - (intOf i).toNat)
 case atStart => exact ⟨0, 0, ⟨List.replicate bks.length 0, fun _ _ => 0⟩, by omega, rfl, by omega, by simp, fun x hx => by rw [List.eq_of_mem_replicate hx]; omega, hE2, hnr2, hb2, hide rfl⟩
 case round =>
  obtain ⟨j, n, E, hj, rfl, hnj, hEl, hEx, hE, hnr, hbw, hsp⟩ := hrel
  clear hE2 hnr2 hb2
  have hz := hbw.size
  have hltE := hE.lt
  have hltN := lt_of_block hnr
  have HEX := hide hEx
  clear hEx
  by_cases hlt : j < bks.length
  ·obtain ⟨g, vs, rfl, hg, c0, c1, hvs⟩ := HBLK.out j hlt
   obtain ⟨pv, cv, rfl, hvv⟩ := hvs.open
   clear hvv
   have c0' : wr.cell? ⟨g, j * 2, none⟩ = some (.slice pv bks[j].values.length cv) := by rw [(bcell hbw).1 g _ hg]; exact c0
   have c1' : wr.cell? ⟨g, j * 2 + 1, none⟩ = some (lastV bks[j].last) := by rw [(bcell hbw).1 g _ hg]; exact c1
   have HTA := hide (targets_any bks[j].last)
   have htb : ∀ t ∈ Code.tg bks[j].last, t < bks.length := HTG.out bks[j] (List.getElem_mem hlt)
   have HSP : Hid ((Code.edgesTo j (Code.tg bks[j].last) 0 ++ Code.edgesGo (bks.drop (j + 1)) (j + 1)).foldl Code.Edges.add E = Code.edges bks) := by
    have h := hsp.out
    rw [List.drop_eq_getElem_cons hlt] at h
    exact h
   have htl := Code.tg_length bks[j].last
   generalize Code.tg bks[j].last = tl at *
   obtain ⟨T, zv, hzv⟩ := lastV_shape bks[j].last
   rw [hzv] at c1' HTA
   clear c0 c1 hvs hsp hzv
   generalize bks[j].values.length = vl at *
   go_wp2_with fail
   generalize hw3 : wr.alloc _ = w3
   have hb3 : Below wr.heap.size wr w3 := by rw [<- hw3]; exact below_al (Below.refl _ _) _
   clear hw3
   refine (HTA.out w3).mono ?_
   rintro e w4 ⟨v4, rfl, hown4, hb4⟩
   have hsz3' := hb3.size
   have hb34 : Below wr.heap.size wr w4 := hb3.trans (hb4.mono hb3.size)
   have hE4 := hE.below hb34
   have hnr4 : natRow w4 (w.heap.size + 1 + 1) E.counts := (hb34.block _ hltN).trans hnr
   have hbw4 : Below w.heap.size w w4 := hbw.trans (hb34.mono hz)
   clear hb3 hb34 hE hnr c0' c1'
   obtain ⟨p4, c4, rfl, hval4⟩ := nats_open hown4
   have HV4 := hide hval4
   have hsz3 := hb4.size
   have hsz0 : w.heap.size + 1 + 1 < w3.heap.size := Nat.lt_of_lt_of_le hltN hsz3'
   clear hval4 hb4
   go_wp2_with fail
   rename World => wo
   go_loopw [27] (fun i ws => ∃ (k n' : Nat) (E' : Code.Edges), k <= tl.length /\ i = .int .i64 k /\ n' <= 2 * j + k /\ E'.counts.length = bks.length /\ (∀ x ∈ E'.counts, x <= n') /\ EMap ws (w.heap.size + 1) n' E'.places /\ natRow ws (w.heap.size + 1 + 1) E'.counts /\ Below w.heap.size w ws /\
     ws.ownsRow w3.heap.size 3 1 (.slice p4 tl.length c4) tl.length (nats tl) /\
     Hid ((Code.edgesTo j (tl.drop k) k ++ Code.edgesGo (bks.drop (j + 1)) (j + 1)).foldl Code.Edges.add E' = Code.edges bks)) (fun i _ => tl.length - (intOf i).toNat)
   case atStart => exact ⟨0, n, E, by omega, rfl, by omega, hEl, HEX.out, hE4, hnr4, hbw4, hown4, HSP⟩
   case round =>
    obtain ⟨k, n', E', hk, rfl, hnk, hEl', hEx', hE', hnr', hbw', hown', hsp'⟩ := hrel
    rename_i ws _
    clear hE4 hnr4 hbw4 hown4 HSP HV4
    have HEX' := hide hEx'
    clear hEx'
    by_cases hkt : k < tl.length
    ·obtain ⟨p5, c5, hpe, hval⟩ := nats_open hown'
     simp only [Value.slice.injEq] at hpe
     obtain ⟨rfl, _, rfl⟩ := hpe
     obtain ⟨g4, rfl, ct⟩ := hval k hkt
     clear hval
     have htk := htb tl[k] (List.getElem_mem hkt)
     have hcl : tl[k] < E'.counts.length := by omega
     have hcell := hnr'.cell tl[k] hcl
     have hxn := HEX'.out E'.counts[tl[k]] (List.getElem_mem hcl)
     have hgd : E'.counts.getD tl[k] 0 = E'.counts[tl[k]] := by rw [List.getD_eq_getElem?_getD, List.getElem?_eq_getElem hcl]; rfl
     have HS : Hid ((Code.edgesTo j (tl.drop (k + 1)) (k + 1) ++ Code.edgesGo (bks.drop (j + 1)) (j + 1)).foldl Code.Edges.add (E'.add (j, k, tl[k])) = Code.edges bks) := by
      have h := hsp'.out
      rw [List.drop_eq_getElem_cons hkt] at h
      exact h
     have hcr := Code.counts_range E' n' HEX'.out (j, k, tl[k])
     have HCR := hide hcr
     obtain ⟨w6, hrun, hE6, hg6⟩ := hE'.put (by omega) j k E'.counts[tl[k]] (by omega) (by omega) (by omega)
     unfold edgeV at hrun
     have hnr6 : natRow w6 (w.heap.size + 1 + 1) E'.counts := (hg6.block _ (lt_of_block hnr') (by simp)).trans hnr'
     have hc6 := hnr6.cell tl[k] hcl
     have hf6 := blk_froz hnr6 tl[k]
     have hE7 : EMap w6 (w.heap.size + 1) (n' + 1) (E'.add (j, k, tl[k])).places := by
      have h := hE6
      rw [<- hgd] at h
      exact h
     have HADD : Hid ((E'.add (j, k, tl[k])).counts = E'.counts.set tl[k] (E'.counts[tl[k]] + 1)) := by
      refine hide ?_
      show E'.counts.set tl[k] (E'.counts.getD tl[k] 0 + 1) = _
      rw [hgd]
     have hbw6 : Below w.heap.size w w6 := hbw'.trans ⟨hg6.os, hg6.tape, hg6.output, hg6.size, fun q hq => hg6.block q (by have := hbw'.size; omega) (by simp; omega)⟩
     have hi1 : (tl[k] : Int) < (bks.length : Int) := by omega
     have hown6 := hown'.kept hg6 (by
      by_cases h : (Value.slice (some ⟨g4, 0, none⟩) tl.length c4).ownBlock = none
      ·exact Or.inl h
      ·refine Or.inr (fun e => ?_)
       have h1 := (hown'.lt _ e).1
       have h2 := hsz0
       omega)
     clear hgd hcr hsp' hE6 hE' hnr' hown'
     generalize hX : E'.counts[tl[k]] = X at *
     go_wp2
     refine ⟨⟨k + 1, n' + 1, E'.add (j, k, tl[k]), by omega, by go_num, by omega, by rw [Code.add_length]; exact hEl', HCR.out, hE7.kept (grown_set _ _ _ _) (by simp), ?_, below_set hbw6 (by omega) _ _, hown6.kept (grown_set _ _ _ _) ?_, HS⟩, by simp [intOf]; omega⟩
     ·have h := hnr6.set tl[k] (X + 1)
      rw [show ((X + 1 : Nat) : Int) = (X : Int) + 1 by omega] at h
      rw [HADD.out]
      exact h
     ·by_cases h : (Value.slice (some ⟨g4, 0, none⟩) tl.length c4).ownBlock = none
      ·exact Or.inl h
      ·refine Or.inr (fun e => ?_)
       have h1 := (hown6.lt _ e).1
       omega
    ·have HS : Hid ((Code.edgesGo (bks.drop (j + 1)) (j + 1)).foldl Code.Edges.add E' = Code.edges bks) := by
      have h := hsp'.out
      rw [List.drop_of_length_le (by omega)] at h
      exact h
     clear hsp' hown'
     go_wp2
     exact ⟨⟨j + 1, n', E', by omega, by go_num, by omega, hEl', HEX'.out, hE', hnr', hbw', HS⟩, by simp [intOf]; omega⟩
  ·have HS : Hid (E = Code.edges bks) := by
    have h := hsp.out
    rw [List.drop_of_length_le (by omega)] at h
    exact h
   clear hsp
   go_wp2
   go_ret2
   refine ⟨w.heap.size + 1, w.heap.size + 1 + 1, n, rfl, by omega, by omega, ?_, ?_, hbw⟩
   ·rw [<- HS.out]; exact hE
   ·rw [<- HS.out]; exact hnr
namespace Code
def nums (l : List Val) : List Nat := l.map (·.num)
def Fresh (R : List Bool) (l : List Val) : Prop := (nums l).Nodup /\ ∀ x ∈ nums l, R.getD x false = false
def Once : List Bool -> List Blk -> Prop
 | _, [] => True
 | R, b :: r => Fresh R b.values /\ Once (addAll R b.values) r
theorem set_getD (R : List Bool) (n x : Nat) (hx : x ≠ n) : (R.set n true).getD x false = R.getD x false := by
 rw [List.getD_eq_getElem?_getD, List.getD_eq_getElem?_getD, List.getElem?_set_ne (by omega)]
theorem Fresh.head {R : List Bool} {v : Val} {l : List Val} (h : Fresh R (v :: l)) : R.getD v.num false = false /\ Fresh (R.set v.num true) l := by
 obtain ⟨h1, h2⟩ := h
 simp only [nums, List.map_cons, List.nodup_cons] at h1
 refine ⟨h2 v.num (by simp [nums]), h1.2, fun x hx => ?_⟩
 rw [set_getD R v.num x (fun e => h1.1 (by subst e; exact hx))]
 exact h2 x (by simp only [nums, List.map_cons]; exact List.mem_cons_of_mem _ hx)
end Code
theorem madeOnce_ok (args : Nat) (bks : List Code.Blk) (p : Option Addr) (c : Nat) (base : Nat) (w : World) (hf : RepBlks w base (.slice p bks.length c) bks) (hn : bks.length <= 8) (hl : ∀ b ∈ bks, b.values.length <= 100000 /\ ∀ v ∈ b.values, v.num < 60) (ho : Code.Once noNumber bks) :
  Calls Tryz.prog 119 #[.agg #[.int .i64 (args : Nat), .slice p bks.length c]] w fun e w' => e = .returned (.tuple #[]) /\ Below w.heap.size w w' := by
 obtain ⟨p', c', hpe, hblk⟩ := hf.open
 simp only [Value.slice.injEq] at hpe
 obtain ⟨rfl, _, rfl⟩ := hpe
 have HBLK := hide hblk
 have HL := hide hl
 have HO := hide ho
 clear hblk hf hl ho
 go_enter Tryz.func119, Tryz.ntmps119
 go_wp2
 generalize hw0 : (w.alloc _).alloc _ = w0
 have hr0 : setRow w0 (w.heap.size + 1) noNumber := by
  have h := heap_alloc_new (w.alloc (.cells #[.int .i64 (args : Nat), .slice p bks.length c] 78)) (.cells (setA noNumber) 281)
  rw [alloc_size] at h
  rw [<- hw0]; exact h
 have hb0 : Below w.heap.size w w0 := by rw [<- hw0]; exact below_al (below_al (Below.refl _ _) _) _
 clear hw0
 go_loopw [10] (fun i wr => ∃ (j : Nat) (R : List Bool), j <= bks.length /\ i = .int .i64 j /\ R.length = 60 /\ setRow wr (w.heap.size + 1) R /\ Below w.heap.size w wr /\ Hid (Code.Once R (bks.drop j))) (fun i _ => bks.length - (intOf i).toNat)
 case atStart => exact ⟨0, noNumber, by omega, rfl, rfl, hr0, hb0, HO⟩
 case round =>
  obtain ⟨j, R, hj, rfl, hR, hrow, hbw, hsp⟩ := hrel
  clear hr0 hb0 HO
  have hz := hbw.size
  by_cases hlt : j < bks.length
  ·obtain ⟨g, vs, rfl, hg, c0, c1, hvs⟩ := HBLK.out j hlt
   obtain ⟨hlen, hnum⟩ := HL.out bks[j] (List.getElem_mem hlt)
   have hO : Code.Fresh R bks[j].values /\ Code.Once (Code.addAll R bks[j].values) (bks.drop (j + 1)) := by
    have h := hsp.out
    rw [List.drop_eq_getElem_cons hlt] at h
    exact h
   obtain ⟨pv, cv, rfl, hval⟩ := hvs.open
   have c0' : wr.cell? ⟨g, j * 2, none⟩ = some (.slice pv bks[j].values.length cv) := by rw [(bcell hbw).1 g _ hg]; exact c0
   obtain ⟨T, zv, hzv⟩ := lastV_shape bks[j].last
   have c1' : wr.cell? ⟨g, j * 2 + 1, none⟩ = some (.iface T zv) := by rw [(bcell hbw).1 g _ hg, <- hzv]; exact c1
   generalize bks[j].values = vals at *
   have HV := hide hval
   have HFR := hide hO.1
   have HON := hide hO.2
   have HNUM := hide hnum
   clear hval c0 c1 hvs hzv hsp hO hnum
   go_wp2_with fail
   generalize hw3 : wr.alloc _ = w3
   have hb3 : Below w.heap.size w w3 := by rw [<- hw3]; exact below_al hbw _
   have hrow3 : setRow w3 (w.heap.size + 1) R := by rw [<- hw3]; exact stay_alloc hrow
   clear hw3 c0' c1'
   rename World => wo
   go_loopw [18] (fun i ws => ∃ (k : Nat) (S : List Bool), k <= vals.length /\ i = .int .i64 k /\ S.length = 60 /\ setRow ws (w.heap.size + 1) S /\ Below w.heap.size w ws /\ Hid (Code.Fresh S (vals.drop k) /\ Code.addAll S (vals.drop k) = Code.addAll R vals)) (fun i _ => vals.length - (intOf i).toNat)
   case atStart => exact ⟨0, R, by omega, rfl, hR, hrow3, hb3, hide ⟨HFR.out, rfl⟩⟩
   case round =>
    obtain ⟨k, S, hk, rfl, hS, hrw, hbs, hsp⟩ := hrel
    clear hrow3 hb3 hrow HFR
    have hzs := hbs.size
    by_cases hkt : k < vals.length
    ·obtain ⟨g2, th, rfl, hg2, d0, d1, hth⟩ := HV.out k hkt
     obtain ⟨T', tv, rfl⟩ := hth.shape
     have d0' : wr.cell? ⟨g2, k * 2, none⟩ = some (.int .i64 (vals[k].num : Nat)) := by rw [(bcell hbs).1 g2 _ hg2]; exact d0
     have d1' : wr.cell? ⟨g2, k * 2 + 1, none⟩ = some (.iface T' tv) := by rw [(bcell hbs).1 g2 _ hg2]; exact d1
     have hx60 := HNUM.out vals[k] (List.getElem_mem hkt)
     have hF := hsp.out.1
     have hA := hsp.out.2
     rw [List.drop_eq_getElem_cons hkt] at hF hA
     have hh := hF.head
     have HN : Hid (Code.Fresh (S.set vals[k].num true) (vals.drop (k + 1)) /\ Code.addAll (S.set vals[k].num true) (vals.drop (k + 1)) = Code.addAll R vals) := hide ⟨hh.2, hA⟩
     have hfalse := hh.1
     clear hF hA hh hth d0 d1 hsp
     generalize vals[k].num = x at *
     have hcx : wr.cell? ⟨w.heap.size + 1, x, none⟩ = some (.bool false) := by
      rw [hrw.cell x (by omega)]
      rw [List.getD_eq_getElem?_getD, List.getElem?_eq_getElem (by omega)] at hfalse
      simp only [Option.getD_some] at hfalse
      rw [hfalse]
     have hfx := blk_froz hrw x
     have hx' : (x : Int) < 60 := by omega
     have hl1 := lt_of_block hrw
     clear hfalse
     go_wp2
     exact ⟨⟨k + 1, S.set x true, by omega, by go_num, by simp [hS], stay_alloc (hrw.set x true), below_al (below_set hbs (by omega) _ _) _, HN⟩, by simp [intOf]; omega⟩
    ·have HA : Hid (S = Code.addAll R vals) := by
      have h := hsp.out.2
      rw [List.drop_of_length_le (by omega)] at h
      exact h
     clear hsp
     go_wp2
     refine ⟨⟨j + 1, S, by omega, by go_num, hS, hrw, hbs, ?_⟩, by simp [intOf]; omega⟩
     rw [HA.out]; exact HON
  ·go_wp2
   go_end0
   exact ⟨rfl, hbw⟩
theorem targets_ok (args : Nat) (bks : List Code.Blk) (p : Option Addr) (c : Nat) (base : Nat) (w : World) (hf : RepBlks w base (.slice p bks.length c) bks) (hn : bks.length <= 8) (ht : ∀ b ∈ bks, ∀ t ∈ Code.tg b.last, 1 <= t /\ t < bks.length) :
  Calls Tryz.prog 120 #[.agg #[.int .i64 (args : Nat), .slice p bks.length c]] w fun e w' => e = .returned (.tuple #[]) /\ Below w.heap.size w w' := by
 obtain ⟨p', c', hpe, hblk⟩ := hf.open
 simp only [Value.slice.injEq] at hpe
 obtain ⟨rfl, _, rfl⟩ := hpe
 have HBLK := hide hblk
 have HTG := hide ht
 clear hblk hf ht
 go_enter Tryz.func120, Tryz.ntmps120
 go_wp2
 generalize hw0 : w.alloc _ = w0
 have hx0 : w0.heap[w.heap.size]? = some (.cells #[.int .i64 (args : Nat), .slice p bks.length c] 78) := by rw [<- hw0]; exact heap_alloc_new w _
 have hb0 : Below w.heap.size w w0 := by rw [<- hw0]; exact below_al (Below.refl _ _) _
 clear hw0
 go_loopw [9] (fun i wr => ∃ j : Nat, j <= bks.length /\ i = .int .i64 j /\ wr.heap[w.heap.size]? = some (.cells #[.int .i64 (args : Nat), .slice p bks.length c] 78) /\ Below w.heap.size w wr) (fun i _ => bks.length - (intOf i).toNat)
 case atStart => exact ⟨0, by omega, rfl, hx0, hb0⟩
 case round =>
  obtain ⟨j, hj, rfl, hx, hbw⟩ := hrel
  clear hx0 hb0
  have hz := hbw.size
  have hzx := lt_of_block hx
  by_cases hlt : j < bks.length
  ·obtain ⟨g, vs, rfl, hg, c0, c1, hvs⟩ := HBLK.out j hlt
   obtain ⟨pv, cv, rfl, hval⟩ := hvs.open
   clear hval
   have c0' : wr.cell? ⟨g, j * 2, none⟩ = some (.slice pv bks[j].values.length cv) := by rw [(bcell hbw).1 g _ hg]; exact c0
   have c1' : wr.cell? ⟨g, j * 2 + 1, none⟩ = some (lastV bks[j].last) := by rw [(bcell hbw).1 g _ hg]; exact c1
   have HTA := hide (targets_any bks[j].last)
   have htb := HTG.out bks[j] (List.getElem_mem hlt)
   have htl := Code.tg_length bks[j].last
   generalize Code.tg bks[j].last = tl at *
   obtain ⟨T, zv, hzv⟩ := lastV_shape bks[j].last
   rw [hzv] at c1' HTA
   clear c0 c1 hvs hzv
   generalize bks[j].values.length = vl at *
   go_wp2_with fail
   generalize hw3 : wr.alloc _ = w3
   have hb3 : Below w.heap.size w w3 := by rw [<- hw3]; exact below_al hbw _
   have hx3 : w3.heap[w.heap.size]? = some (.cells #[.int .i64 (args : Nat), .slice (some ⟨g, 0, none⟩) bks.length c] 78) := by rw [<- hw3]; exact stay_alloc hx
   clear hw3 c0' c1'
   refine (HTA.out w3).mono ?_
   rintro e w4 ⟨v4, rfl, hown4, hb4⟩
   have hx4 := (hb4.block _ (lt_of_block hx3)).trans hx3
   have hbw4 : Below w.heap.size w w4 := hb3.trans (hb4.mono hb3.size)
   clear hb3 hb4 hx3
   obtain ⟨p4, c4, rfl, hval4⟩ := nats_open hown4
   have HV4 := hide hval4
   have hcx := blk_cell hx4 1 _ rfl
   clear hval4 hown4
   go_wp2_with fail
   go_loop [18] (fun i => ∃ k : Nat, k <= tl.length /\ i = .int .i64 k) (fun i => tl.length - (intOf i).toNat)
   case atStart => exact ⟨0, by omega, rfl⟩
   case round =>
    obtain ⟨k, hk, rfl⟩ := hrel
    by_cases hkt : k < tl.length
    ·obtain ⟨g4, rfl, ct⟩ := HV4.out k hkt
     obtain ⟨t1, t2⟩ := htb tl[k] (List.getElem_mem hkt)
     have t1' : ¬ (tl[k] : Int) < 1 := by omega
     have t2' : (tl[k] : Int) < (bks.length : Int) := by omega
     clear HV4
     go_wp2
     exact ⟨⟨k + 1, by omega, by go_num⟩, by simp [intOf]; omega⟩
    ·go_wp2
     exact ⟨⟨j + 1, by omega, by go_num, hx4, hbw4⟩, by simp [intOf]; omega⟩
  ·go_wp2
   go_end0
   exact ⟨rfl, hbw⟩
namespace Code
def falses (R : List Bool) : Nat := R.countP (· == false)
def reachF : Nat -> List (List Nat) -> List Bool -> Nat -> List Bool
 | 0, _, R, _ => R
 | f + 1, T, R, b => if R.getD b true = true then R else (T.getD b []).foldl (reachF f T) (R.set b true)
theorem reachF_yes {f : Nat} {T : List (List Nat)} {R : List Bool} {b : Nat} (h : R.getD b true = true) : reachF (f + 1) T R b = R := by simp only [reachF, if_pos h]
theorem reachF_no {f : Nat} {T : List (List Nat)} {R : List Bool} {b : Nat} (h : R.getD b true = false) : reachF (f + 1) T R b = (T.getD b []).foldl (reachF f T) (R.set b true) := by
 have h' : ¬ R.getD b true = true := by rw [h]; simp
 simp only [reachF, if_neg h']
theorem falses_set : ∀ (R : List Bool) (i : Nat) (h : i < R.length), R[i] = false -> falses (R.set i true) + 1 = falses R
 | b :: R, 0, _, hf => by simp only [List.getElem_cons_zero] at hf; subst hf; simp [falses]
 | b :: R, i + 1, h, hf => by
  simp only [List.getElem_cons_succ] at hf
  have := falses_set R i (by simpa using h) hf
  simp only [falses, List.set_cons_succ, List.countP_cons] at this ⊢
  omega
theorem falses_set_le (R : List Bool) (i : Nat) : falses (R.set i true) <= falses R := by
 induction R generalizing i with
 | nil => simp
 | cons b R ih =>
  cases i with
  | zero => cases b <;> simp [falses]
  | succ i =>
   have := ih i
   simp only [falses, List.set_cons_succ, List.countP_cons] at this ⊢
   omega
theorem reachF_facts : ∀ (f : Nat) (T : List (List Nat)) (R : List Bool) (b : Nat), (reachF f T R b).length = R.length /\ falses (reachF f T R b) <= falses R
 | 0, _, _, _ => ⟨rfl, Nat.le_refl _⟩
 | f + 1, T, R, b => by
  have fold : ∀ (l : List Nat) (S : List Bool), (l.foldl (reachF f T) S).length = S.length /\ falses (l.foldl (reachF f T) S) <= falses S := by
   intro l
   induction l with
   | nil => intro S; exact ⟨rfl, Nat.le_refl _⟩
   | cons x l ih =>
    intro S
    rw [List.foldl_cons]
    have h1 := ih (reachF f T S x)
    have h2 := reachF_facts f T S x
    exact ⟨h1.1.trans h2.1, Nat.le_trans h1.2 h2.2⟩
  cases h : R.getD b true
  ·rw [reachF_no h]
   have h1 := fold (T.getD b []) (R.set b true)
   exact ⟨h1.1.trans (by simp), Nat.le_trans h1.2 (falses_set_le R b)⟩
  ·rw [reachF_yes h]; exact ⟨rfl, Nat.le_refl _⟩
def tgs (bks : List Blk) : List (List Nat) := bks.map fun b => tg b.last
theorem tgs_get (bks : List Blk) (j : Nat) (h : j < bks.length) : (tgs bks).getD j [] = tg bks[j].last := by
 rw [List.getD_eq_getElem?_getD]; simp [tgs, h]
end Code
def boolRow (w : World) (g : Nat) (R : List Bool) : Prop := w.heap[g]? = some (.cells (setA R) 4)
theorem boolRow.cell {w : World} {g : Nat} {R : List Bool} (h : boolRow w g R) (i : Nat) (hi : i < R.length) : w.cell? ⟨g, i, none⟩ = some (.bool R[i]) :=
 blk_cell h i _ (by simp [setA, setL, hi])
theorem boolRow.set {w : World} {g : Nat} {R : List Bool} (h : boolRow w g R) (i : Nat) (b : Bool) : boolRow (w.setCell ⟨g, i, none⟩ (.bool b)) g (R.set i b) := by
 unfold boolRow at *
 rw [set_block h]
 simp [setA, setL, List.map_set]
theorem infoBool : (Tryz.prog.info? 4).map (fun i => (i.zero, i.size, i.bytes)) = some (some (.bool false), 1, 1) := by kernel_rfl
theorem boolRow_made {w : World} {base g n : Nat} (h : w.ownsRow base 4 1 (.slice (some ⟨g, 0, none⟩) n n) n (madeCells (Value.bool false).cells (n * 1)).toList) : boolRow w g (List.replicate n false) := by
 rcases h.2 with ⟨h0, _⟩ | ⟨g', cap, cur, hv, _, hg, _, _, hs, ht⟩
 ·cases h0
 ·simp only [Value.slice.injEq, Option.some.injEq, Addr.mk.injEq] at hv
  obtain ⟨⟨rfl, _⟩, _, rfl⟩ := hv
  unfold boolRow
  rw [hg]
  congr 2
  apply Array.toList_inj.1
  rw [<- List.take_of_length_le (l := cur.toList) (i := n * 1) (by simp [hs]), ht]
  apply List.ext_getElem
  ·simp [madeCells, setA, setL]
  ·intro i h1 h2
   simp [madeCells, Value.cells, Nat.mod_one, setA, setL]
theorem RepBlks.keptT {w w' : World} {base rb : Nat} {v : Value} {l : List Code.Blk} (h : RepBlks w base v l) {C : Array Value} {T : TypeId} {z : Nat × Nat} (hb : w.heap[rb]? = some (.cells C T z)) (hg : w.grownBy w' (some rb))
  (h1 : T ≠ 165) (h2 : T ≠ 169) (h3 : T ≠ 3) : RepBlks w' base v l :=
 h.mono (fun _ _ _ h => own_kept hb hg h h1) (fun _ _ _ h => own_kept hb hg h h2) (fun _ _ _ h => own_kept hb hg h h3)
theorem reach_any (args : Nat) (bks : List Code.Blk) (p : Option Addr) (c : Nat) (base g : Nat) (ht : ∀ b ∈ bks, ∀ t ∈ Code.tg b.last, t < bks.length) :
  ∀ (fuel : Nat) (R : List Bool) (b : Nat) (w : World), RepBlks w base (.slice p bks.length c) bks -> R.length = bks.length -> b < bks.length -> Code.falses R < fuel -> boolRow w g R ->
  Calls Tryz.prog 163 #[.agg #[.int .i64 (args : Nat), .slice p bks.length c], .int .i64 (b : Nat), .slice (some ⟨g, 0, none⟩) bks.length bks.length] w fun e w' =>
   e = .returned (.tuple #[]) /\ boolRow w' g (Code.reachF fuel (Code.tgs bks) R b) /\ w.grownBy w' (some g) := by
 intro fuel
 induction fuel with
 | zero => intro R b w _ _ _ h; omega
 | succ fuel ih =>
  intro R b w hf hR hb hfu hrow
  have HIH := hide ih
  have HTG := hide ht
  have HF := hide hf
  clear ih
  have hblt : b < R.length := by omega
  have hcb := hrow.cell b hblt
  have hfz := blk_froz hrow b
  have hgd : R.getD b true = R[b] := by rw [List.getD_eq_getElem?_getD, List.getElem?_eq_getElem hblt]; rfl
  have hbl : (b : Int) < (bks.length : Int) := by omega
  have hglt := lt_of_block hrow
  cases hRb : R[b] with
  | true =>
   have HE := hide (Code.reachF_yes (f := fuel) (T := Code.tgs bks) (hgd.trans hRb))
   rw [hRb] at hcb
   clear hRb hgd hf
   go_enter Tryz.func163, Tryz.ntmps163
   go_wp2
   refine bodyPost_ret (results_none rfl _ _ _) rfl ?_
   refine ⟨rfl, ?_, grown_alloc _ _ _⟩
   rw [HE.out]
   exact stay_alloc hrow
  | false =>
   have HE := hide (Code.reachF_no (f := fuel) (T := Code.tgs bks) (hgd.trans hRb))
   have hfs := Code.falses_set R b hblt hRb
   rw [hRb] at hcb
   rw [Code.tgs_get bks b hb] at HE
   clear hRb hgd
   obtain ⟨p', c', hpe, hblk⟩ := hf.open
   simp only [Value.slice.injEq] at hpe
   obtain ⟨rfl, _, rfl⟩ := hpe
   obtain ⟨gb, vs, rfl, hg, c0, c1, hvs⟩ := hblk b hb
   clear hblk c0 hvs hf
   have hgne : gb ≠ g := by
    obtain ⟨cs, h1, _⟩ := HF.out
    rintro rfl
    exact own_ne h1 hrow (by decide) rfl
   have HTA := hide (targets_any bks[b].last)
   have htb : ∀ t ∈ Code.tg bks[b].last, t < bks.length := HTG.out bks[b] (List.getElem_mem hb)
   have htl := Code.tg_length bks[b].last
   generalize Code.tg bks[b].last = tl at *
   obtain ⟨T, zv, hzv⟩ := lastV_shape bks[b].last
   rw [hzv] at c1 HTA
   clear hzv
   go_enter Tryz.func163, Tryz.ntmps163
   go_wp2_with fail
   generalize hw3 : (w.setCell _ _).alloc _ = w3
   have hg3 : w.grownBy w3 (some g) := by rw [<- hw3]; exact grown_trans (grown_set _ _ _ _) (grown_alloc _ _ _)
   have hrow3 : boolRow w3 g (R.set b true) := by rw [<- hw3]; exact stay_alloc (hrow.set b true)
   have hx3 : w3.heap[w.heap.size]? = some (.cells #[.int .i64 (args : Nat), .slice (some ⟨gb, 0, none⟩) bks.length c] 78) := by
    rw [<- hw3]
    have h := heap_alloc_new (w.setCell ⟨g, b, none⟩ (.bool true)) (.cells #[.int .i64 (args : Nat), .slice (some ⟨gb, 0, none⟩) bks.length c] 78)
    rw [size_set] at h
    exact h
   clear hw3 hcb hfz c1
   refine (HTA.out w3).mono ?_
   rintro e w4 ⟨v4, rfl, hown4, hb4⟩
   have hg4 : w.grownBy w4 (some g) := grown_trans hg3 (grown_below hb4)
   have hrow4 : boolRow w4 g (R.set b true) := (hb4.block _ (lt_of_block hrow3)).trans hrow3
   have hx4 := (hb4.block _ (lt_of_block hx3)).trans hx3
   have hz3 := hg3.size
   clear hg3 hrow3 hx3 hb4
   obtain ⟨p4, c4, rfl, _⟩ := nats_open hown4
   go_wp2_with fail
   go_loopw [23] (fun i wr => ∃ (k : Nat) (S : List Bool), k <= tl.length /\ i = .int .i64 k /\ S.length = bks.length /\ Code.falses S < fuel /\ boolRow wr g S /\ w.grownBy wr (some g) /\ wr.heap[w.heap.size]? = some (.cells #[.int .i64 (args : Nat), .slice (some ⟨gb, 0, none⟩) bks.length c] 78) /\
     wr.ownsRow w3.heap.size 3 1 (.slice p4 tl.length c4) tl.length (nats tl) /\ Hid ((tl.drop k).foldl (Code.reachF fuel (Code.tgs bks)) S = tl.foldl (Code.reachF fuel (Code.tgs bks)) (R.set b true))) (fun i _ => tl.length - (intOf i).toNat)
   case atStart => exact ⟨0, R.set b true, by omega, rfl, by simp [hR], by omega, hrow4, hg4, hx4, hown4, hide rfl⟩
   case round =>
    obtain ⟨k, S, hk, rfl, hS, hSf, hrw, hgr, hx, hown, hsp⟩ := hrel
    clear hrow4 hg4 hx4 hown4
    by_cases hkt : k < tl.length
    ·obtain ⟨p5, c5, hpe, hval⟩ := nats_open hown
     simp only [Value.slice.injEq] at hpe
     obtain ⟨rfl, _, rfl⟩ := hpe
     obtain ⟨g4, rfl, ct⟩ := hval k hkt
     clear hval
     have htk := htb tl[k] (List.getElem_mem hkt)
     have hx0 := blk_cell hx 0 _ rfl
     have hx1 := blk_cell hx 1 _ rfl
     have HSN : Hid ((tl.drop (k + 1)).foldl (Code.reachF fuel (Code.tgs bks)) (Code.reachF fuel (Code.tgs bks) S tl[k]) = tl.foldl (Code.reachF fuel (Code.tgs bks)) (R.set b true)) := by
      have h := hsp.out
      rw [List.drop_eq_getElem_cons hkt] at h
      exact h
     have hfac := Code.reachF_facts fuel (Code.tgs bks) S tl[k]
     have HC := hide (HIH.out S tl[k] wr (HF.out.keptT hrow hgr (by decide) (by decide) (by decide)) hS htk hSf hrw)
     clear hsp
     go_wp2_with fail
     refine HC.out.mono ?_
     rintro e w5 ⟨rfl, hrw5, hg5⟩
     have hx5 := kept_block hx hg5 (by omega)
     have hown5 := own_kept hrw hg5 hown (by decide)
     go_wp2
     exact ⟨⟨k + 1, Code.reachF fuel (Code.tgs bks) S tl[k], by omega, by go_num, by rw [hfac.1]; exact hS, by omega, hrw5, grown_trans hgr hg5, hx5, hown5, HSN⟩, by simp [intOf]; omega⟩
    ·have HSE : Hid (S = Code.reachF (fuel + 1) (Code.tgs bks) R b) := by
      have h := hsp.out
      rw [List.drop_of_length_le (by omega)] at h
      rw [HE.out]; exact h
     clear hsp
     go_wp2
     go_end0
     exact ⟨rfl, by rw [<- HSE.out]; exact hrw, hgr⟩
theorem reached_ok (args : Nat) (bks : List Code.Blk) (p : Option Addr) (c : Nat) (base : Nat) (w : World) (hf : RepBlks w base (.slice p bks.length c) bks) (hn : bks.length <= 8) (hn0 : 0 < bks.length) (ht : ∀ b ∈ bks, ∀ t ∈ Code.tg b.last, t < bks.length)
  (hr : Code.reachF 9 (Code.tgs bks) (List.replicate bks.length false) 0 = List.replicate bks.length true) :
  Calls Tryz.prog 121 #[.agg #[.int .i64 (args : Nat), .slice p bks.length c]] w fun e w' => e = .returned (.tuple #[]) /\ Below w.heap.size w w' := by
 obtain ⟨i0, hi, hi0, hi1, hi2⟩ := info_parts infoBool
 have HF := hide hf
 have HTG := hide ht
 have HR := hide hr
 clear hf ht hr
 go_enter Tryz.func121, Tryz.ntmps121
 go_wp2_with (first | (at_make; refine wpList_make_full _ rfl _ _ 181 rfl w.heap.size 4 i0 (.bool false) 1 Tryz.underlying181 hi hi0 hi1 .i64 .i64 _ _ bks.length rfl rfl rfl rfl (by rw [hi2]; omega) (by unfold maxLen; omega) (by simp) ?_; intro w2 hown2 hgrow2; have hnr2 := boolRow_made hown2; rw [alloc_size] at hnr2; have hbx : w2.heap[w.heap.size]? = some (.cells #[.int .i64 (args : Nat), .slice p bks.length c] 78) := (hgrow2.block _ (by simp) (by simp)).trans (heap_alloc_new w _); have hc0 := blk_cell hbx 0 _ rfl; have hc1 := blk_cell hbx 1 _ rfl) | fail)
 have hb2 : Below w.heap.size w w2 := by
  have h := below_al (Below.refl w.heap.size w) (.cells #[.int .i64 (args : Nat), .slice p bks.length c] 78)
  exact h.trans ⟨hgrow2.os, hgrow2.tape, hgrow2.output, hgrow2.size, fun k hk => hgrow2.block k (by simp; omega) (by simp)⟩
 have hfl : Code.falses (List.replicate bks.length false) < 9 := by
  have : Code.falses (List.replicate bks.length false) = bks.length := by rw [Code.falses, List.countP_replicate]; rfl
  omega
 refine (reach_any args bks p c base (w.heap.size + 1) HTG.out 9 (List.replicate bks.length false) 0 w2 (HF.out.below hb2) (by simp) hn0 hfl hnr2).mono ?_
 rw [HR.out]
 rintro e w3 ⟨rfl, hrow3, hg3⟩
 have hb3 : Below w.heap.size w w3 := hb2.trans ⟨hg3.os, hg3.tape, hg3.output, hg3.size, fun k hk => hg3.block k (by have := hb2.size; omega) (by simp; omega)⟩
 clear hown2 hgrow2 hnr2 hbx hc0 hc1 hb2 hfl hg3
 go_wp2_with fail
 go_loop [13] (fun i => ∃ k : Nat, k <= bks.length /\ i = .int .i64 k) (fun i => bks.length - (intOf i).toNat)
 case atStart => exact ⟨0, by omega, rfl⟩
 case round =>
  obtain ⟨k, hk, rfl⟩ := hrel
  by_cases hkt : k < bks.length
  ·have hc := hrow3.cell k (by simpa using hkt)
   simp only [List.getElem_replicate] at hc
   go_wp2
   exact ⟨⟨k + 1, by omega, by go_num⟩, by simp [intOf]; omega⟩
  ·go_wp2
   go_end0
   exact ⟨rfl, hb3⟩
namespace Code
def PhisOk (bks : List Blk) : Prop := ∀ j (h : j < bks.length), ∀ v ∈ bks[j].values, ∀ of, v.thing = .phi of -> j ≠ 0 /\ of.length = (edges bks).counts.getD j 0
theorem edges_length (bks : List Blk) : (edges bks).counts.length = bks.length := by
 have : ∀ (l : List (Nat × Nat × Nat)) (E : Edges), (l.foldl Edges.add E).counts.length = E.counts.length := by
  intro l
  induction l with
  | nil => intro E; rfl
  | cons e l ih => intro E; rw [List.foldl_cons, ih, add_length]
 unfold edges
 rw [this]; simp
end Code
theorem belowN {B : Nat} {a w : World} (h : Below B a w) (n : Nat) : Below B a (w.drewN n) := ⟨h.os, h.tape, h.output, h.size, h.block⟩
theorem phis_ok (args : Nat) (bks : List Code.Blk) (p : Option Addr) (c : Nat) (base : Nat) (w : World) (hf : RepBlks w base (.slice p bks.length c) bks) (hn : bks.length <= 8) (hl : ∀ b ∈ bks, b.values.length <= 100000) (ht : ∀ b ∈ bks, ∀ t ∈ Code.tg b.last, t < bks.length) (hp : Code.PhisOk bks) :
  Calls Tryz.prog 122 #[.agg #[.int .i64 (args : Nat), .slice p bks.length c]] w fun e w' => e = .returned (.tuple #[]) /\ Below w.heap.size w w' := by
 have HF := hide hf
 have HTG := hide ht
 have HL := hide hl
 have HP := hide hp
 clear ht hl hp
 go_enter Tryz.func122, Tryz.ntmps122
 go_wp2_with fail
 generalize hw0 : w.alloc _ = w0
 have hx0 : w0.heap[w.heap.size]? = some (.cells #[.int .i64 (args : Nat), .slice p bks.length c] 78) := by rw [<- hw0]; exact heap_alloc_new w _
 have hb0 : Below w.heap.size w w0 := by rw [<- hw0]; exact below_al (Below.refl _ _) _
 clear hw0
 refine (edges_any args bks p c base w0 (HF.out.below hb0) hn HTG.out).mono ?_
 rintro e w1 ⟨mb, g, n, rfl, hmb, hgm, hE, hnr, hb1⟩
 have hx1 := (hb1.block _ (lt_of_block hx0)).trans hx0
 have hbw1 : Below w.heap.size w w1 := hb0.trans (hb1.mono hb0.size)
 have hz0 := hb0.size
 have hcn := Code.edges_length bks
 have HP' : Hid (∀ j (h : j < bks.length), ∀ v ∈ bks[j].values, ∀ of, v.thing = .phi of -> j ≠ 0 /\ of.length = (Code.edges bks).counts.getD j 0) := HP
 generalize (Code.edges bks).counts = C at *
 have hcx := blk_cell hx1 1 _ rfl
 clear hE hx0 hb0 hb1 HP
 obtain ⟨p', c', hpe, hblk⟩ := hf.open
 simp only [Value.slice.injEq] at hpe
 obtain ⟨rfl, _, rfl⟩ := hpe
 have HBLK := hide hblk
 clear hblk hf
 go_wp2_with fail
 clear hcx
 go_loopw [18] (fun i wr => ∃ j : Nat, j <= bks.length /\ i = .int .i64 j /\ natRow wr g C /\ Below w.heap.size w wr) (fun i _ => bks.length - (intOf i).toNat)
 case atStart => exact ⟨0, by omega, rfl, hnr, hbw1⟩
 case round =>
  obtain ⟨j, hj, rfl, hrw, hbw⟩ := hrel
  clear hnr hbw1 hx1
  have hz := hbw.size
  have hgl := lt_of_block hrw
  by_cases hlt : j < bks.length
  ·obtain ⟨gb, vs, rfl, hg, c0, c1, hvs⟩ := HBLK.out j hlt
   have hlen := HL.out bks[j] (List.getElem_mem hlt)
   have HPJ := hide (HP'.out j hlt)
   have hgd : C.getD j 0 = C[j]'(by omega) := by rw [List.getD_eq_getElem?_getD, List.getElem?_eq_getElem (by omega)]; rfl
   rw [hgd] at HPJ
   obtain ⟨pv, cv, rfl, hval⟩ := hvs.open
   have c0' : wr.cell? ⟨gb, j * 2, none⟩ = some (.slice pv bks[j].values.length cv) := by rw [(bcell hbw).1 gb _ hg]; exact c0
   obtain ⟨T, zv, hzv⟩ := lastV_shape bks[j].last
   have c1' : wr.cell? ⟨gb, j * 2 + 1, none⟩ = some (.iface T zv) := by rw [(bcell hbw).1 gb _ hg, <- hzv]; exact c1
   generalize bks[j].values = vals at *
   have HV := hide hval
   clear hval c0 c1 hvs hzv hgd
   go_wp2_with fail
   generalize hw3 : wr.alloc _ = w3
   have hb3 : Below w.heap.size w w3 := by rw [<- hw3]; exact below_al hbw _
   have hrow3 : natRow w3 g C := by rw [<- hw3]; exact stay_alloc hrw
   clear hw3 c0' c1' hrw
   rename World => wo
   go_loopw [26] (fun i ws => ∃ k : Nat, k <= vals.length /\ i = .int .i64 k /\ natRow ws g C /\ Below w.heap.size w ws) (fun i _ => vals.length - (intOf i).toNat)
   case atStart => exact ⟨0, by omega, rfl, hrow3, hb3⟩
   case round =>
    obtain ⟨k, hk, rfl, hrw, hbs⟩ := hrel
    clear hrow3 hb3
    have hzs := hbs.size
    by_cases hkt : k < vals.length
    ·obtain ⟨g2, th, rfl, hg2, d0, d1, hth⟩ := HV.out k hkt
     have HPK := hide (HPJ.out vals[k] (List.getElem_mem hkt))
     have d0' : wr.cell? ⟨g2, k * 2, none⟩ = some (.int .i64 (vals[k].num : Nat)) := by rw [(bcell hbs).1 g2 _ hg2]; exact d0
     have d1' : wr.cell? ⟨g2, k * 2 + 1, none⟩ = some th := by rw [(bcell hbs).1 g2 _ hg2]; exact d1
     have hth' : ThingV w base vals[k].thing th := hth
     generalize vals[k].thing = y at *
     generalize vals[k].num = x at *
     clear d0 d1
     have hcj := hrw.cell j (by omega)
     have hjl : (j : Int) < (bks.length : Int) := by omega
     have hl1 := lt_of_block hrw
     cases y with
     | phi of =>
      obtain ⟨r, rfl, hro⟩ := hth'
      obtain ⟨pr, cr, rfl⟩ := own_slice hro
      obtain ⟨hj0, hof⟩ := HPK.out of rfl
      have hj0' : ((j : Int) == 0) = false := beq_eq_false_iff_ne.2 (by omega)
      have hta := isPhi_phi
      have hof' : (((of.length : Nat) : Int) != ((C[j]'(by omega) : Nat) : Int)) = false := by rw [hof]; simp
      go_wp2_with fail
      go_quiet (fail)
      go_wp2
      exact ⟨⟨k + 1, by omega, by go_num, stay_alloc (stay_alloc hrw), belowN (below_al (below_al hbs _) _) _⟩, by simp [intOf]; omega⟩
     | arg m =>
      have hth2 : th = _ := hth'
      subst hth2
      have hta := isPhi_arg
      go_wp2_with fail
      go_quiet (fail)
      go_wp2
      exact ⟨⟨k + 1, by omega, by go_num, stay_alloc (stay_alloc hrw), belowN (below_al (below_al hbs _) _) _⟩, by simp [intOf]; omega⟩
     | const m =>
      have hth2 : th = _ := hth'
      subst hth2
      have hta := isPhi_const
      go_wp2_with fail
      go_quiet (fail)
      go_wp2
      exact ⟨⟨k + 1, by omega, by go_num, stay_alloc (stay_alloc hrw), belowN (below_al (below_al hbs _) _) _⟩, by simp [intOf]; omega⟩
     | apply q of =>
      obtain ⟨r, rfl, hro⟩ := hth'
      obtain ⟨pr, cr, rfl⟩ := own_slice hro
      have hta := isPhi_apply
      go_wp2_with fail
      go_quiet (fail)
      go_wp2
      exact ⟨⟨k + 1, by omega, by go_num, stay_alloc (stay_alloc hrw), belowN (below_al (below_al hbs _) _) _⟩, by simp [intOf]; omega⟩
    ·go_wp2
     exact ⟨⟨j + 1, by omega, by go_num, hrw, hbs⟩, by simp [intOf]; omega⟩
  ·go_wp2
   go_end0
   exact ⟨rfl, hbw⟩
end Go.Proofs.YtedkjanogjglkaaGreatDoor
