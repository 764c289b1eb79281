/-
  Parts of the proof: RMake, RMake2, RMake3.
-/
import Derived.Test.YtedkjanogjglkaaGreatDoorP17
import Derived.BigQuiet
set_option maxRecDepth 100000
set_option maxHeartbeats 4000000
namespace Go.Proofs.YtedkjanogjglkaaGreatDoor
open Go.RowKit
open Go.Proofs.YtedkjanogjglkaaGreatDoor.Code (RTree Nm RSt Prs CRule)
structure KinM (w w' : World) (mb B : Nat) : Prop where
 os : w'.os = w.os
 tape : w'.tape = w.tape
 output : w'.output = w.output
 size : w.heap.size <= w'.heap.size
 block : ∀ k o, w.heap[k]? = some o -> k ≠ mb -> (k < B \/ ∀ C z, o ≠ .cells C 169 z) -> w'.heap[k]? = some o
theorem KinM.trans {a b c : World} {mb B : Nat} (h : KinM a b mb B) (k : KinM b c mb B) : KinM a c mb B :=
 ⟨k.os.trans h.os, k.tape.trans h.tape, k.output.trans h.output, Nat.le_trans h.size k.size, fun i o hi hn ht => k.block i o (h.block i o hi hn ht) hn ht⟩
theorem KinM.below {w w' : World} {mb B : Nat} (h : Below w.heap.size w w') : KinM w w' mb B :=
 ⟨h.os, h.tape, h.output, h.size, fun k _ hk _ _ => (h.block k (lt_of_block hk)).trans hk⟩
theorem KinM.down {w0 w w' : World} {mb B : Nat} (hB : w0.heap.size = B) (hb : Below B w0 w) (h : KinM w w' mb B) (hmb : B <= mb) : Below B w0 w' := by
 refine ⟨h.os.trans hb.os, h.tape.trans hb.tape, h.output.trans hb.output, Nat.le_trans hb.size h.size, fun q hq => ?_⟩
 have h1 : w0.heap[q]? = some (w0.heap[q]'(by omega)) := Array.getElem?_eq_getElem (by omega)
 rw [h1]
 exact h.block q _ ((hb.block q hq).trans h1) (by omega) (Or.inl hq)
theorem KinM.set {w : World} {mb B o : Nat} {v : Value} : KinM w (w.setCell ⟨mb, o, none⟩ v) mb B :=
 ⟨rfl, rfl, rfl, by rw [size_set]; exact Nat.le_refl _, fun _ _ hk hn _ => stay_set hk hn⟩
theorem KinM.grown {w w3 : World} {mb B base size n : Nat} {v : Value} {xs : List Value} (h : w.ownsRow base 169 size v n xs) (hB : B <= base) (hg : w.grownBy w3 v.ownBlock) : KinM w w3 mb B := by
 refine ⟨hg.os, hg.tape, hg.output, hg.size, fun k o hk _ ht => ?_⟩
 rw [hg.block k (lt_of_block hk) (fun e => ?_)]
 ·exact hk
 ·rcases ht with ht | ht
  ·have := (h.lt k e.symm).1; omega
  ·rcases h.2 with ⟨h3, _⟩ | ⟨g3, c3', cur3, h3, h4, h5, _⟩
   ·rw [h3] at e; cases e
   ·rw [h3] at e
    simp only [Value.ownBlock, Option.some.injEq] at e
    subst e
    rw [hk] at h5
    simp only [Option.some.injEq] at h5
    exact ht _ _ h5
theorem KinM.own {w w' : World} {mb B : Nat} (h : KinM w w' mb B) {C : Array Value} {z : Nat × Nat} (hm : w.heap[mb]? = some (.cells C 229 z)) {base e size n : Nat} {v : Value} {xs : List Value} (ho : w.ownsRow base e size v n xs) (h1 : e ≠ 229) (h2 : e ≠ 169) : w'.ownsRow base e size v n xs := by
 refine ⟨ho.1, ?_⟩
 rcases ho.2 with h0 | ⟨g, cap, cur, hv, hbg, hgg, r⟩
 ·exact Or.inl h0
 ·refine Or.inr ⟨g, cap, cur, hv, hbg, h.block g _ hgg ?_ (Or.inr ?_), r⟩
  ·rintro rfl
   rw [hm] at hgg
   simp only [Option.some.injEq, Obj.cells.injEq] at hgg
   exact h1 hgg.2.1.symm
  ·intro C' z' hc
   simp only [Obj.cells.injEq] at hc
   exact h2 hc.2.1
def LK (of : List Nat) (kn : Code.Known) (i : Int) (p : Nm) : Prop := ∃ k : Nat, i = k /\ ∃ h : k < of.length, Code.knownV kn p.1 = of[k]
def avoids (av : Nat -> Prop) (v : Value) : Prop := match v with
 | .iface _ (.agg a) => ∀ x ∈ a, ∀ b, x.ownBlock = some b -> ¬ av b
 | _ => True
def MakerR (w : World) (mb tb B : Nat) (of : List Nat) (av : Nat -> Prop) (m : Code.Mk) : Prop :=
 ∃ ov mv, w.heap[mb]? = some (.cells #[.pointer (some ⟨tb, 0, none⟩), ov, mv, .int .i64 (m.next : Nat)] 229) /\ (w.ownsRow 0 3 1 ov of.length (nats of) /\ ∀ b, ov.ownBlock = some b -> ¬ av b) /\ ∃ cs, w.ownsRow B 169 2 mv m.made.length cs /\ ValsCs w cs m.made /\ ∀ u ∈ cs, avoids av u
structure MkIn (w0 w : World) (th : Nat -> Option Code.Thing) (mb tb B : Nat) (of : List Nat) (av : Nat -> Prop) (m : Code.Mk) : Prop where
 avl : ∀ b, av b -> b < w.heap.size
 hth : ThArr w0 tb th
 ok : ThOk th
 hB : w0.heap.size = B
 hb : Below B w0 w
 hm : MakerR w mb tb B of av m
 hmb : B <= mb
 of60 : ∀ x ∈ of, x < 60
theorem MakerR.below {w w' : World} {mb tb B : Nat} {of : List Nat} {av : Nat -> Prop} {m : Code.Mk} (h : MakerR w mb tb B of av m) (hb : Below w.heap.size w w') : MakerR w' mb tb B of av m := by
 obtain ⟨ov, mv, h1, h2, cs, h3, h4⟩ := h
 exact ⟨ov, mv, (hb.block mb (lt_of_block h1)).trans h1, ⟨own_below h2.1 hb, h2.2⟩, cs, own_below h3 hb, h4.1.below hb, h4.2⟩
theorem MkIn.next {w0 w w1 : World} {th : Nat -> Option Code.Thing} {mb tb B : Nat} {of : List Nat} {av : Nat -> Prop} {m : Code.Mk} (h : MkIn w0 w th mb tb B of av m) (hb : Below w.heap.size w w1) : MkIn w0 w1 th mb tb B of av m :=
 ⟨fun b hb' => Nat.lt_of_lt_of_le (h.avl b hb') hb.size, h.hth, h.ok, h.hB, h.hb.trans (hb.mono (by have := h.hb.size; have := h.hB; omega)), h.hm.below hb, h.hmb, h.of60⟩
theorem MkIn.step {w0 w w1 : World} {th : Nat -> Option Code.Thing} {mb tb B : Nat} {of : List Nat} {av : Nat -> Prop} {m m' : Code.Mk} (h : MkIn w0 w th mb tb B of av m) (hk : KinM w w1 mb B) (hm : MakerR w1 mb tb B of av m') : MkIn w0 w1 th mb tb B of av m' :=
 ⟨fun b hb' => Nat.lt_of_lt_of_le (h.avl b hb') hk.size, h.hth, h.ok, h.hB, hk.down h.hB h.hb h.hmb, hm, h.hmb, h.of60⟩
theorem MkIn.top {w0 w : World} {th : Nat -> Option Code.Thing} {mb tb B : Nat} {of : List Nat} {av : Nat -> Prop} {m : Code.Mk} (h : MkIn w0 w th mb tb B of av m) : B <= w.heap.size := by
 have := h.hb.size
 have := h.hB
 omega
theorem nNu_name (v : Value) (w : World) : (Instr.typeAssert (.iface 225 v) 121 313 true).run Tryz.prog w = .ok (.tuple #[.agg #[.int .i32 0], .bool false]) w := by kernel_rfl
theorem nNu_hash (v : Value) (w : World) : (Instr.typeAssert (.iface 316 v) 121 313 true).run Tryz.prog w = .ok (.tuple #[.agg #[.int .i32 0], .bool false]) w := by kernel_rfl
theorem nNu_num (v : Value) (w : World) : (Instr.typeAssert (.iface 313 v) 121 313 true).run Tryz.prog w = .ok (.tuple #[v, .bool true]) w := by kernel_rfl
theorem nNu_make (v : Value) (w : World) : (Instr.typeAssert (.iface 271 v) 121 313 true).run Tryz.prog w = .ok (.tuple #[.agg #[.int .i32 0], .bool false]) w := by kernel_rfl
theorem nNu_fold (v : Value) (w : World) : (Instr.typeAssert (.iface 266 v) 121 313 true).run Tryz.prog w = .ok (.tuple #[.agg #[.int .i32 0], .bool false]) w := by kernel_rfl
theorem nHs_name (v : Value) (w : World) : (Instr.typeAssert (.iface 225 v) 121 316 true).run Tryz.prog w = .ok (.tuple #[.agg #[.int .i64 0], .bool false]) w := by kernel_rfl
theorem nHs_hash (v : Value) (w : World) : (Instr.typeAssert (.iface 316 v) 121 316 true).run Tryz.prog w = .ok (.tuple #[v, .bool true]) w := by kernel_rfl
theorem nHs_make (v : Value) (w : World) : (Instr.typeAssert (.iface 271 v) 121 316 true).run Tryz.prog w = .ok (.tuple #[.agg #[.int .i64 0], .bool false]) w := by kernel_rfl
theorem nHs_fold (v : Value) (w : World) : (Instr.typeAssert (.iface 266 v) 121 316 true).run Tryz.prog w = .ok (.tuple #[.agg #[.int .i64 0], .bool false]) w := by kernel_rfl
theorem nRk_name (v : Value) (w : World) : (Instr.typeAssert (.iface 225 v) 121 266 true).run Tryz.prog w = .ok (.tuple #[.agg #[.int .i64 0, .slice none 0 0], .bool false]) w := by kernel_rfl
theorem nRk_make (v : Value) (w : World) : (Instr.typeAssert (.iface 271 v) 121 266 true).run Tryz.prog w = .ok (.tuple #[.agg #[.int .i64 0, .slice none 0 0], .bool false]) w := by kernel_rfl
theorem nRk_fold (v : Value) (w : World) : (Instr.typeAssert (.iface 266 v) 121 266 true).run Tryz.prog w = .ok (.tuple #[v, .bool true]) w := by kernel_rfl
def NumC (t : RTree) : Prop := ∀ (w0 w : World) (th : Nat -> Option Code.Thing) (kn : Code.Known) (mb tb B base : Nat) (of : List Nat) (av : Nat -> Prop) (m : Code.Mk) (rv : Value), MkIn w0 w th mb tb B of av m -> RepT w0 base true (LK of kn) rv t ->
 Calls Tryz.prog 175 #[.pointer (some ⟨mb, 0, none⟩), rv] w fun e w' => e = .returned (.int .i32 (Code.numR th kn t)) /\ Below w.heap.size w w'
theorem constOf_32 {th : Nat -> Option Code.Thing} (hok : ThOk th) (n : Nat) : -2147483648 <= (Code.constOf th n).getD 0 /\ (Code.constOf th n).getD 0 < 2147483648 := by
 unfold Code.constOf
 cases h : th n with
 | none => simp
 | some t =>
  cases t with
  | const c =>
   have := hok n _ h
   simp only at this
   simpa using this
  | _ => simp
theorem numsR_length (th : Nat -> Option Code.Thing) (kn : Code.Known) : ∀ l : List RTree, (Code.numsR th kn l).length = l.length
 | [] => rfl
 | t :: l => by simp only [Code.numsR, List.length_cons, numsR_length th kn l]
mutual
theorem numR_32 {th : Nat -> Option Code.Thing} (hok : ThOk th) (kn : Code.Known) (w : World) (base : Nat) (L : Int -> Nm -> Prop) : ∀ (t : RTree) (v : Value), RepT w base true L v t -> -2147483648 <= Code.numR th kn t /\ Code.numR th kn t < 2147483648
 | .num c, v, h => by
  obtain ⟨_, h1, h2⟩ := h
  simp only [Code.numR]; omega
 | .name x, v, _ => by simp [Code.numR]
 | .op k l, v, _ => by simp [Code.numR]
 | .hash x, v, _ => by
  simp only [Code.numR]
  exact constOf_32 hok _
 | .fold k kids, v, h => by
  obtain ⟨sv, vs, _, hk, hl, _, hts⟩ := h
  simp only [Code.numR]
  have hr := Code.opOf_range k hk
  have hln := hts.length
  have hall := numsR_32 hok kn w base L kids vs hts
  have hnl := numsR_length th kn kids
  have hne : Code.numsR th kn kids ≠ [] := by
   intro h0
   rw [h0] at hnl
   simp at hnl
   omega
  have h1 : (Code.numsR th kn kids).headD 0 ∈ Code.numsR th kn kids := by
   cases hc : Code.numsR th kn kids with
   | nil => exact absurd hc hne
   | cons a b => simp
  have h2 : (Code.numsR th kn kids).getLastD 0 ∈ Code.numsR th kn kids := by
   rw [List.getLastD_eq_getLast?, List.getLast?_eq_some_getLast hne]
   exact List.getLast_mem hne
  cases hc : Code.reckon k ((Code.numsR th kn kids).headD 0) ((Code.numsR th kn kids).getLastD 0) with
  | none => simp
  | some n => exact reckon_in32 hc (hall _ h1) (hall _ h2)
theorem numsR_32 {th : Nat -> Option Code.Thing} (hok : ThOk th) (kn : Code.Known) (w : World) (base : Nat) (L : Int -> Nm -> Prop) : ∀ (l : List RTree) (us : List Value), RepTs w base true L us l -> ∀ x ∈ Code.numsR th kn l, -2147483648 <= x /\ x < 2147483648
 | [], _, _, x, hx => by simp [Code.numsR] at hx
 | t :: l, [], h, _, _ => h.elim
 | t :: l, u :: us, h, x, hx => by
  simp only [Code.numsR, List.mem_cons] at hx
  rcases hx with hx | hx
  ·rw [hx]; exact numR_32 hok kn w base L t u h.1
  ·exact numsR_32 hok kn w base L l us h.2 x hx
end
theorem numsR_get (th : Nat -> Option Code.Thing) (kn : Code.Known) : ∀ (l : List RTree) (i : Nat) (h : i < l.length), (Code.numsR th kn l)[i]'(by rw [numsR_length]; exact h) = Code.numR th kn l[i]
 | t :: l, 0, _ => rfl
 | t :: l, i + 1, h => numsR_get th kn l i (by simpa using h)
theorem num_simple (t : RTree) (ht : (∃ x, t = .name x) \/ (∃ k l, t = .op k l) \/ ∃ c, t = .num c) : NumC t := by
 intro w0 w th kn mb tb B base of av m rv hin hrep
 rcases ht with ⟨x, rfl⟩ | ⟨k, l, rfl⟩ | ⟨c, rfl⟩
 ·obtain ⟨i, rfl, _⟩ := hrep
  have t1 := nNu_name
  have t2 := nHs_name
  have t3 := nRk_name
  clear hin
  go_enter Tryz.func175, Tryz.ntmps175
  go_wp2
  go_ret
  exact ⟨rfl, Below.refl _ _⟩
 ·obtain ⟨sv, vs, rfl, _, _, hown, _⟩ := hrep
  simp only [if_true] at hown ⊢
  obtain ⟨sp, sc, rfl⟩ := own_slice hown
  have t1 := nNu_make
  have t2 := nHs_make
  have t3 := nRk_make
  clear hin hown
  go_enter Tryz.func175, Tryz.ntmps175
  go_wp2
  go_ret
  exact ⟨rfl, Below.refl _ _⟩
 ·obtain ⟨rfl, _, _⟩ := hrep
  have t1 := nNu_num
  clear hin
  go_enter Tryz.func175, Tryz.ntmps175
  go_wp2
  go_ret
  exact ⟨rfl, below_al (Below.refl _ _) _⟩
theorem num_hash (x : List UInt8) : NumC (.hash x) := by
 intro w0 w th kn mb tb B base of av m rv hin hrep
 obtain ⟨i, rfl, k, rfl, hk, hkn⟩ := hrep
 have hof60 := hin.of60 of[k] (List.getElem_mem hk)
 obtain ⟨ov, mv, hx, ⟨hov, hoa⟩, cs, hmv, hvc⟩ := hin.hm
 have hin' := hin
 have HN : Hid (Code.numR th kn (.hash x) = (Code.constOf th of[k]).getD 0) := by
  refine hide ?_
  simp only [Code.numR]
  simp only at hkn
  rw [hkn]
 have hml := lt_of_block hx
 have HCO : Hid (∀ w1, Below w.heap.size w w1 -> Calls Tryz.prog 206 #[.pointer (some ⟨mb, 0, none⟩), .int .i64 (of[k] : Nat)] w1 fun e w' => e = .returned (constPost (Code.constOf th of[k])) /\ Below w1.heap.size w1 w') := hide fun w1 hb1 => constantAt_any w0 th mb tb B of[k] w1 hin'.hth hin'.hB (hin'.next hb1).hb (blk_cell ((hb1.block _ hml).trans hx) 0 _ rfl) hof60
 have hcp : constPost (Code.constOf th of[k]) = .tuple #[.int .i32 ((Code.constOf th of[k]).getD 0), .bool (Code.constOf th of[k]).isSome] := by
  cases Code.constOf th of[k] <;> rfl
 rw [hcp] at HCO
 obtain ⟨p', c', rfl, hval⟩ := nats_open hov
 obtain ⟨g, rfl, e0⟩ := hval k hk
 obtain ⟨mp, mc, rfl⟩ := own_slice hmv
 have hgl : g < w.heap.size := by
  cases hh : w.heap[g]? with
  | none => simp [World.cell?, hh] at e0
  | some o => exact lt_of_block hh
 have t1 := nNu_hash
 have t2 := nHs_hash
 have hkl : (k : Int) < (of.length : Int) := by omega
 clear hin hin' hov hmv hvc hval hkn hcp
 generalize (Code.constOf th of[k]).getD 0 = d at *
 generalize (Code.constOf th of[k]).isSome = dz at *
 generalize of[k] = fk at *
 go_enter Tryz.func175, Tryz.ntmps175
 go_wp2_with fail
 generalize hw0 : w.alloc _ = w1
 have hb1 : Below w.heap.size w w1 := by rw [<- hw0]; exact below_al (Below.refl _ _) _
 have hx1 : w1.heap[w.heap.size]? = some (.cells #[.int .i64 (k : Nat)] 316) := by rw [<- hw0]; exact heap_alloc_new w _
 clear hw0
 have q0 : ∀ w', Below w1.heap.size w1 w' -> w'.cell? ⟨mb, 1, none⟩ = some (.slice (some ⟨g, 0, none⟩) of.length c') := fun w' h => blk_cell ((h.block _ (by have := hb1.size; omega)).trans ((hb1.block _ hml).trans hx)) 1 _ rfl
 have q1 : ∀ w', Below w1.heap.size w1 w' -> w'.cell? ⟨w.heap.size, 0, none⟩ = some (.int .i64 (k : Nat)) := fun w' h => blk_cell ((h.block _ (lt_of_block hx1)).trans hx1) 0 _ rfl
 have q2 : ∀ w', Below w1.heap.size w1 w' -> w'.cell? ⟨g, k, none⟩ = some (.int .i64 (fk : Nat)) := fun w' h => by
  have h1 := h.block g (by have := hb1.size; omega)
  have h2 := hb1.block g hgl
  simpa [World.cell?, h1, h2] using e0
 go_region_held3 (fun w' => Below w1.heap.size w1 w') (first | assumption | (repeat' (first | assumption | exact Below.refl _ _ | apply Below.drew))) (first | (go_at_call 206; refine (HCO.out _ hb1.drew).mono ?_; rintro e w2 ⟨rfl, hb2'⟩; have hb2 : Below w1.heap.size w1 w2 := undrewB hb2'))
 go_wp2
 go_ret
 exact ⟨by rw [HN.out]; rfl, hb1.trans (hb2.mono hb1.size)⟩
theorem num_fold (k : Nat) (kids : List RTree) (ih : ∀ s ∈ kids, NumC s) : NumC (.fold k kids) := by
 intro w0 w th kn mb tb B base of av m rv hin hrep
 have h32 := numsR_32 hin.ok kn w0 base (LK of kn) kids
 obtain ⟨sv, vs, rfl, hk13, hvl, hown, hts⟩ := hrep
 have hr := Code.opOf_range k hk13
 have hln := hts.length
 have hall := h32 vs hts
 have hnl := numsR_length th kn kids
 have h0l : 0 < kids.length := by omega
 have hll : vs.length - 1 < kids.length := by omega
 have HR0 : Hid (RepT w0 base true (LK of kn) (vs[0]'(by omega)) kids[0]) := hide (hts.get 0 h0l (by omega))
 have HR1 : Hid (RepT w0 base true (LK of kn) (vs[vs.length - 1]'(by omega)) kids[vs.length - 1]) := hide (hts.get _ hll (by omega))
 have hn0 : -2147483648 <= Code.numR th kn kids[0] /\ Code.numR th kn kids[0] < 2147483648 := numR_32 hin.ok kn w0 base _ _ _ HR0.out
 have hn1 : -2147483648 <= Code.numR th kn kids[vs.length - 1] /\ Code.numR th kn kids[vs.length - 1] < 2147483648 := numR_32 hin.ok kn w0 base _ _ _ HR1.out
 have HC0 : Hid (∀ w1, Below w.heap.size w w1 -> Calls Tryz.prog 175 #[.pointer (some ⟨mb, 0, none⟩), vs[0]'(by omega)] w1 fun e w' => e = .returned (.int .i32 (Code.numR th kn kids[0])) /\ Below w1.heap.size w1 w') := hide fun w1 hb1 => ih kids[0] (List.getElem_mem h0l) w0 w1 th kn mb tb B base of av m _ (hin.next hb1) HR0.out
 have HC1 : Hid (∀ w1, Below w.heap.size w w1 -> Calls Tryz.prog 175 #[.pointer (some ⟨mb, 0, none⟩), vs[vs.length - 1]'(by omega)] w1 fun e w' => e = .returned (.int .i32 (Code.numR th kn kids[vs.length - 1])) /\ Below w1.heap.size w1 w') := hide fun w1 hb1 => ih _ (List.getElem_mem hll) w0 w1 th kn mb tb B base of av m _ (hin.next hb1) HR1.out
 have HN : Hid (Code.numR th kn (.fold k kids) = (Code.reckon k (Code.numR th kn kids[0]) (Code.numR th kn kids[vs.length - 1])).getD 0) := by
  refine hide ?_
  simp only [Code.numR]
  have hne : Code.numsR th kn kids ≠ [] := by
   intro h0
   rw [h0] at hnl
   simp at hnl
   omega
  have a1 : (Code.numsR th kn kids).headD 0 = Code.numR th kn kids[0] := by
   rw [<- numsR_get th kn kids 0 h0l]
   revert hne
   have key : ∀ (l : List Int) (h : 0 < l.length), l ≠ [] -> l.headD 0 = l[0] := by
    intro l h _
    cases l with
    | nil => simp at h
    | cons a b => rfl
   exact key _ (by omega)
  have a2 : (Code.numsR th kn kids).getLastD 0 = Code.numR th kn kids[vs.length - 1] := by
   rw [List.getLastD_eq_getLast?, List.getLast?_eq_some_getLast hne, <- numsR_get th kn kids _ hll, List.getLast_eq_getElem]
   simp only [Option.getD_some]
   congr 1
   omega
  rw [a1, a2]
 obtain ⟨T0, x0, hs0⟩ := HR0.out.shape
 obtain ⟨T1, x1, hs1⟩ := HR1.out.shape
 have hbw0 := hin.hb
 have hBB := hin.hB
 obtain ⟨g, cap, hge, _, hgl, hcell⟩ := row_open hown (by omega)
 subst hge
 have e0 := hcell 0 _ (List.getElem?_eq_getElem (show 0 < vs.length by omega))
 have e1 := hcell (vs.length - 1) _ (List.getElem?_eq_getElem (show vs.length - 1 < vs.length by omega))
 rw [hs0] at e0 HC0
 rw [hs1] at e1 HC1
 have hkeep : ∀ w1, Below w.heap.size w w1 -> w1.heap[g]? = w0.heap[g]? := fun w1 h1 => (h1.block g (by have := hbw0.size; omega)).trans (hbw0.block g (by omega))
 have E0 : ∀ w1, Below w.heap.size w w1 -> w1.cell? ⟨g, 0, none⟩ = some (.iface T0 x0) := fun w1 h1 => by simpa [World.cell?, hkeep w1 h1] using e0
 have E1 : ∀ w1, Below w.heap.size w w1 -> w1.cell? ⟨g, vs.length - 1, none⟩ = some (.iface T1 x1) := fun w1 h1 => by simpa [World.cell?, hkeep w1 h1] using e1
 have HE0 := hide E0
 have HE1 := hide E1
 have cw0 := E0 w (Below.refl _ _)
 have hglw : g < w.heap.size := by have := hbw0.size; omega
 have t1 := nNu_fold
 have t2 := nHs_fold
 have t3 := nRk_fold
 have hv0 : 0 < vs.length := by omega
 have hv0' : (0 : Int) < (vs.length : Int) := by omega
 clear hin hown hts hall h32 hcell e0 e1 E0 E1 hkeep hs0 hs1 HR0 HR1 hnl hbw0 ih
 generalize Code.numR th kn kids[0] = n0 at *
 generalize Code.numR th kn kids[vs.length - 1] = n1 at *
 generalize hvn : vs.length = vl at *
 have h12 : vl = 1 \/ vl = 2 := by omega
 clear hll h0l hvn hln hvl hr
 rcases h12 with rfl | rfl
 all_goals
  go_enter Tryz.func175, Tryz.ntmps175
  go_wp2_with fail
  generalize hw1 : w.alloc _ = w1
  have hb1 : Below w.heap.size w w1 := by rw [<- hw1]; exact below_al (Below.refl _ _) _
  first | (have hx1 : w1.heap[w.heap.size]? = some (.cells #[.int .i64 (k : Nat), .slice (some ⟨g, 0, none⟩) 1 cap] 266) := (by rw [<- hw1]; exact heap_alloc_new w _)) | (have hx1 : w1.heap[w.heap.size]? = some (.cells #[.int .i64 (k : Nat), .slice (some ⟨g, 0, none⟩) 2 cap] 266) := (by rw [<- hw1]; exact heap_alloc_new w _))
  clear hw1
  refine (HC0.out w1 hb1).mono ?_
  rintro e w2 ⟨rfl, hb2⟩
  have hbw2 : Below w.heap.size w w2 := hb1.trans (hb2.mono hb1.size)
  have hx2 := (hb2.block _ (lt_of_block hx1)).trans hx1
  have p1 := blk_cell hx2 1 _ rfl
  have cw1 := HE1.out w2 hbw2
  simp only [Nat.sub_self, Nat.reduceSub] at cw1
  go_wp2_with fail
  refine (HC1.out w2 hbw2).mono ?_
  rintro e w3 ⟨rfl, hb3⟩
  have hbw3 : Below w.heap.size w w3 := hbw2.trans (hb3.mono hbw2.size)
  have hx3 := (hb3.block _ (lt_of_block hx2)).trans hx2
  have p0 := blk_cell hx3 0 _ rfl
  clear p1 cw1
  go_wp2_with fail
  refine (reckon_any k hk13 n0 n1 w3 hn0.1 hn0.2 hn1.1 hn1.2).mono ?_
  rintro e w4 ⟨⟨n, hrk, rfl⟩ | ⟨hrk, rfl⟩, rfl⟩
  ·rw [hrk] at HN
   clear hrk
   go_wp2
   go_ret
   exact ⟨by rw [HN.out]; rfl, hbw3⟩
  ·rw [hrk] at HN
   clear hrk
   go_wp2
   go_ret
   exact ⟨by rw [HN.out]; rfl, hbw3⟩
mutual
theorem num_any : ∀ t : RTree, NumC t
 | .name x => num_simple _ (Or.inl ⟨x, rfl⟩)
 | .hash x => num_hash x
 | .num c => num_simple _ (Or.inr (Or.inr ⟨c, rfl⟩))
 | .op k kids => num_simple _ (Or.inr (Or.inl ⟨k, kids, rfl⟩))
 | .fold k kids => num_fold k kids (nums_any kids)
theorem nums_any : ∀ (l : List RTree), ∀ s ∈ l, NumC s
 | [], _, h => by cases h
 | t :: l, s, h => by
  rcases List.mem_cons.1 h with h | h
  ·rw [h]; exact num_any t
  ·exact nums_any l s h
end
namespace Code
theorem free_more (th : Nat -> Option Thing) : ∀ (f g n : Nat), 60 - n <= f -> 60 - n <= g -> free th f n = free th g n
 | 0, 0, n, _, _ => rfl
 | 0, g + 1, n, h, _ => by
  rw [free, free, if_neg (by omega)]
 | f + 1, 0, n, _, h => by
  rw [free, free, if_neg (by omega)]
 | f + 1, g + 1, n, h1, h2 => by
  rw [free, free]
  split
  ·exact free_more th f g (n + 1) (by omega) (by omega)
  ·rfl
theorem freeFrom_step (th : Nat -> Option Thing) (n : Nat) (h : n < 60) (hs : (th n).isSome = true) : freeFrom th n = freeFrom th (n + 1) := by
 unfold freeFrom
 rw [show free th 60 n = if n < 60 /\ (th n).isSome = true then free th 59 (n + 1) else n from rfl, if_pos ⟨h, hs⟩]
 exact free_more th _ _ _ (by omega) (by omega)
theorem freeFrom_done (th : Nat -> Option Thing) (n : Nat) (h : ¬ (n < 60 /\ (th n).isSome = true)) : freeFrom th n = n := by
 unfold freeFrom
 rw [show free th 60 n = if n < 60 /\ (th n).isSome = true then free th 59 (n + 1) else n from rfl, if_neg h]
theorem free_le (th : Nat -> Option Thing) : ∀ (f n : Nat), free th f n <= n \/ free th f n <= 60
 | 0, n => Or.inl (Nat.le_refl _)
 | f + 1, n => by
  rw [free]
  split
  ·rcases free_le th f (n + 1) with h | h <;> omega
  ·exact Or.inl (Nat.le_refl _)
theorem freeFrom_le (th : Nat -> Option Thing) (n : Nat) : freeFrom th n <= n \/ freeFrom th n <= 60 := free_le th 60 n
end Code
theorem MakerR.setNext {w : World} {mb tb B : Nat} {of : List Nat} {av : Nat -> Prop} {m : Code.Mk} (h : MakerR w mb tb B of av m) (n : Nat) : MakerR (w.setCell ⟨mb, 3, none⟩ (.int .i64 (n : Nat))) mb tb B of av ⟨m.made, n⟩ := by
 obtain ⟨ov, mv, h1, h2, cs, h3, h4⟩ := h
 exact ⟨ov, mv, set_block h1, ⟨own_set h2.1 h1 (by decide), h2.2⟩, cs, own_set h3 h1 (by decide), h4.1.mono (fun _ _ _ h => own_set h h1 (by decide)), h4.2⟩
def leftM (w : World) (mb : Nat) : Nat := match w.cell? ⟨mb, 3, none⟩ with
 | some (.int _ n) => (60 - n).toNat
 | _ => 0
theorem neq_nil (w : World) : (binOp .neq 167 .nilIface .nilIface).run Tryz.prog w = .ok (.bool false) w := by kernel_rfl
theorem neq_thing (T : TypeId) (x : Value) (w : World) : (binOp .neq 167 (.iface T x) .nilIface).run Tryz.prog w = .ok (.bool true) w := by kernel_rfl
theorem free_any (w0 w : World) (th : Nat -> Option Code.Thing) (mb tb B : Nat) (of : List Nat) (av : Nat -> Prop) (m : Code.Mk) (hin : MkIn w0 w th mb tb B of av m) (hn : m.next <= 1000000) :
  Calls Tryz.prog 211 #[.pointer (some ⟨mb, 0, none⟩)] w fun e w' => e = .returned (.int .i64 (Code.freeFrom th m.next : Nat)) /\ MakerR w' mb tb B of av ⟨m.made, Code.freeFrom th m.next + 1⟩ /\ KinM w w' mb B := by
 have HIN := hide hin
 clear hin
 go_enter Tryz.func211, Tryz.ntmps211
 go_wp2_with fail
 go_loopw [3] (fun _ wr => ∃ n : Nat, n <= 1000000 /\ MkIn w0 wr th mb tb B of av ⟨m.made, n⟩ /\ KinM w wr mb B /\ Hid (Code.freeFrom th n = Code.freeFrom th m.next)) (fun _ wr => leftM wr mb)
 case atStart => exact ⟨m.next, hn, HIN.out, KinM.below (Below.refl _ _), hide rfl⟩
 case round =>
  obtain ⟨n, hn', hin, hkm, HE⟩ := hrel
  have HI2 := hide hin
  obtain ⟨ov, mv, hx, ⟨hov, hoa⟩, cs, hmv, hvc⟩ := hin.hm
  obtain ⟨op, oc, rfl⟩ := own_slice hov
  obtain ⟨mp, mc, rfl⟩ := own_slice hmv
  have c0 := blk_cell hx 0 _ rfl
  have c3 := blk_cell hx 3 _ rfl
  have z3 := blk_froz hx 3
  have hml := lt_of_block hx
  have HM : Hid (leftM wr mb = 60 - n) := by
   refine hide ?_
   unfold leftM
   rw [c3]
   show (60 - (n : Int)).toNat = _
   omega
  clear hov hmv hvc
  by_cases h60 : n < 60
  ·obtain ⟨v, hc, hv⟩ := hin.hth.cell hin.hB hin.hb n h60
   have hd60 : decide ((n : Int) < 60) = true := by simp; omega
   have hlt60 : (n : Int) < 60 := by omega
   clear hin
   cases ht : th n with
   | none =>
    rw [ht] at hv
    have hv' : v = .nilIface := hv
    subst hv'
    have HD : Hid (n = Code.freeFrom th m.next) := hide ((Code.freeFrom_done th n (by simp [ht])).symm.trans HE.out)
    have hq := neq_nil
    clear ht hv
    go_wp2_with fail
    go_quiet (fail)
    go_wp2_with fail
    go_ret
    have he : ((n : Int) + 1) = ((n + 1 : Nat) : Int) := by omega
    rw [<- HD.out, he]
    have hbN : Below wr.heap.size wr (wr.drewN nq) := belowN (Below.refl _ _) _
    exact ⟨rfl, (HI2.out.next hbN).hm.setNext (n + 1), (hkm.trans (KinM.below hbN)).trans KinM.set⟩
   | some t =>
    rw [ht] at hv
    obtain ⟨T, tv, rfl⟩ := ThingV.shape hv
    have HD : Hid (Code.freeFrom th (n + 1) = Code.freeFrom th m.next) := hide ((Code.freeFrom_step th n h60 (by simp [ht])).symm.trans HE.out)
    have hq := neq_thing T tv
    clear ht hv
    go_wp2_with fail
    go_quiet (fail)
    go_wp2_with fail
    have he : ((n : Int) + 1) = ((n + 1 : Nat) : Int) := by omega
    rw [he]
    have hbN : Below wr.heap.size wr (wr.drewN nq) := belowN (Below.refl _ _) _
    have hI3 := (HI2.out.next hbN).step KinM.set ((HI2.out.next hbN).hm.setNext (n + 1))
    refine ⟨⟨n + 1, by omega, hI3, (hkm.trans (KinM.below hbN)).trans KinM.set, HD⟩, ?_⟩
    obtain ⟨ov', mv', hx', _⟩ := hI3.hm
    rw [HM.out]
    unfold leftM
    rw [blk_cell hx' 3 _ rfl]
    show (60 - ((n + 1 : Nat) : Int)).toNat < _
    omega
  ·have hd60 : decide ((n : Int) < 60) = false := by simp; omega
   have HD : Hid (n = Code.freeFrom th m.next) := hide ((Code.freeFrom_done th n (by omega)).symm.trans HE.out)
   clear hin
   go_wp2_with fail
   go_quiet (fail)
   go_wp2_with fail
   go_ret
   have he : ((n : Int) + 1) = ((n + 1 : Nat) : Int) := by omega
   rw [<- HD.out, he]
   have hbN : Below wr.heap.size wr (wr.drewN nq) := belowN (Below.refl _ _) _
   exact ⟨rfl, (HI2.out.next hbN).hm.setNext (n + 1), (hkm.trans (KinM.below hbN)).trans KinM.set⟩
namespace Code
mutual
def newC : RTree -> Nat
 | .name _ => 0
 | .op _ kids => 1 + newCs kids
 | _ => 1
def newCs : List RTree -> Nat
 | [] => 0
 | t :: l => newC t + newCs l
end
theorem newCs_app (a b : List RTree) : newCs (a ++ b) = newCs a + newCs b := by
 induction a with
 | nil => simp [newCs]
 | cons t a ih => simp only [List.cons_append, newCs, ih]; omega
theorem newCs_take (l : List RTree) (j : Nat) (h : j < l.length) : newCs (l.take (j + 1)) = newCs (l.take j) + newC l[j] := by
 rw [List.take_add_one, List.getElem?_eq_getElem h, newCs_app]
 simp [newCs]
theorem newCs_le (l : List RTree) (j : Nat) : newCs (l.take j) <= newCs l := by
 have h : newCs l = newCs (l.take j) + newCs (l.drop j) := by rw [<- newCs_app, List.take_append_drop]
 omega
def Room (m : Mk) (n : Nat) : Prop := m.made.length + n <= 100000 /\ m.next + n <= 200000 /\ n <= 100000
theorem Room.put {th : Nat -> Option Thing} {m : Mk} {n : Nat} {t : Thing} (h : Room m (n + 1)) : Room (m.put th t).2 n := by
 obtain ⟨h1, h2, h3⟩ := h
 have := freeFrom_le th m.next
 unfold Mk.put
 refine ⟨by simp; omega, ?_, by omega⟩
 simp only
 omega
mutual
theorem room_val (th : Nat -> Option Thing) (kn : Known) : ∀ (t : RTree) (m : Mk) (n : Nat), Room m (n + newC t) -> Room (mkVal th kn t m).2 n
 | .name x, m, n, h => by simpa [mkVal, newC] using h
 | .num c, m, n, h => by simp only [mkVal]; exact Room.put h
 | .hash x, m, n, h => by simp only [mkVal]; exact Room.put h
 | .fold k l, m, n, h => by simp only [mkVal]; exact Room.put h
 | .op k l, m, n, h => by
  simp only [mkVal]
  refine Room.put (room_all th kn l m (n + 1) ?_)
  simp only [newC] at h
  rw [show n + 1 + newCs l = n + (1 + newCs l) by omega]
  exact h
theorem room_all (th : Nat -> Option Thing) (kn : Known) : ∀ (l : List RTree) (m : Mk) (n : Nat), Room m (n + newCs l) -> Room (mkAll th kn l m).2 n
 | [], m, n, h => by simpa [mkAll, newCs] using h
 | t :: l, m, n, h => by
  simp only [mkAll]
  refine room_all th kn l _ n (room_val th kn t m (n + newCs l) ?_)
  simp only [newCs] at h
  rw [show n + newCs l + newC t = n + (newC t + newCs l) by omega]
  exact h
end
theorem mkAll_snoc (th : Nat -> Option Thing) (kn : Known) (t : RTree) : ∀ (l : List RTree) (m : Mk), mkAll th kn (l ++ [t]) m = ((mkAll th kn l m).1 ++ [(mkVal th kn t (mkAll th kn l m).2).1], (mkVal th kn t (mkAll th kn l m).2).2)
 | [], m => by simp [mkAll]
 | a :: l, m => by
  simp only [List.cons_append, mkAll, mkAll_snoc th kn t l]
theorem mkAll_len (th : Nat -> Option Thing) (kn : Known) : ∀ (l : List RTree) (m : Mk), (mkAll th kn l m).1.length = l.length
 | [], m => rfl
 | a :: l, m => by simp only [mkAll, List.length_cons, mkAll_len th kn l]
end Code
theorem MakerR.setAv {w : World} {mb tb B : Nat} {of : List Nat} {av : Nat -> Prop} {m : Code.Mk} (h : MakerR w mb tb B of av m) {g : Nat} (hg : av g) (hmg : mb ≠ g) {C : Array Value} {z : Nat × Nat} (hgb : w.heap[g]? = some (.cells C 3 z)) (o : Nat) (v : Value) : MakerR (w.setCell ⟨g, o, none⟩ v) mb tb B of av m := by
 obtain ⟨ov, mv, h1, ⟨h2, h2a⟩, cs, h3, ⟨h4, h4b⟩, h5⟩ := h
 refine ⟨ov, mv, stay_set h1 hmg, ⟨own_at h2 (fun b hb => Below.heap_setCell w ⟨g, o, none⟩ v b (fun e => h2a b hb (e ▸ hg))), h2a⟩, cs, own_set h3 hgb (by decide), ⟨h4, fun i hi => ?_⟩, h5⟩
 obtain ⟨th, a, b, c⟩ := h4b i hi
 have hav := h5 th (List.mem_of_getElem? b)
 refine ⟨th, a, b, ?_⟩
 generalize (m.made[i]).thing = y at c
 have keep : ∀ r n xs, w.ownsRow 0 3 1 r n xs -> (∀ q, r.ownBlock = some q -> ¬ av q) -> (w.setCell ⟨g, o, none⟩ v).ownsRow 0 3 1 r n xs := fun r n xs hr hq => own_at hr (fun q hb => Below.heap_setCell w ⟨g, o, none⟩ v q (fun e => hq q hb (e ▸ hg)))
 cases y with
 | phi l =>
  obtain ⟨r, rfl, hr⟩ := c
  exact ⟨r, rfl, keep r _ _ hr (hav r (by simp))⟩
 | arg n => exact c
 | const n => exact c
 | apply k l =>
  obtain ⟨r, rfl, hr⟩ := c
  exact ⟨r, rfl, keep r _ _ hr (hav r (by simp))⟩
theorem MakerR.more {w : World} {mb tb B : Nat} {of : List Nat} {av : Nat -> Prop} {m : Code.Mk} (h : MakerR w mb tb B of av m) {g : Nat} (hg : w.heap.size <= g) : MakerR w mb tb B of (fun b => av b \/ b = g) m := by
 obtain ⟨ov, mv, h1, ⟨h2, h2a⟩, cs, h3, ⟨h4, h4b⟩, h5⟩ := h
 have lt : ∀ r n xs, w.ownsRow 0 3 1 r n xs -> ∀ q, r.ownBlock = some q -> q ≠ g := fun r n xs hr q hq => by
  have := (hr.lt q hq).2; omega
 refine ⟨ov, mv, h1, ⟨h2, fun b hb => ?_⟩, cs, h3, ⟨h4, h4b⟩, fun u hu => ?_⟩
 ·rintro (h | h)
  ·exact h2a b hb h
  ·exact lt _ _ _ h2 b hb h
 ·have hav := h5 u hu
  obtain ⟨j, hj, rfl⟩ := List.getElem_of_mem hu
  obtain ⟨th, a, b, c⟩ := h4b (j / 2) (by omega)
  rcases Nat.mod_two_eq_zero_or_one j with hm | hm
  ·have e : j = j / 2 * 2 := by omega
   rw [<- e, List.getElem?_eq_getElem hj, Option.some.injEq] at a
   rw [a]; trivial
  ·have e : j = j / 2 * 2 + 1 := by omega
   rw [<- e, List.getElem?_eq_getElem hj, Option.some.injEq] at b
   rw [b] at hav ⊢
   generalize (m.made[j / 2]).thing = y at c
   cases y with
   | phi l =>
    obtain ⟨r, rfl, hr⟩ := c
    intro x hx q hq
    simp only [List.mem_toArray, List.mem_cons, List.not_mem_nil, or_false] at hx
    rintro (h | h)
    ·exact hav x (by simp [hx]) q hq h
    ·exact lt r _ _ hr q (hx ▸ hq) h
   | arg n =>
    have c' : th = _ := c
    subst c'
    intro x hx q hq
    simp at hx; subst hx; cases hq
   | const n =>
    have c' : th = _ := c
    subst c'
    intro x hx q hq
    simp at hx; subst hx; cases hq
   | apply k l =>
    obtain ⟨r, rfl, hr⟩ := c
    intro x hx q hq
    simp only [List.mem_toArray, List.mem_cons, List.not_mem_nil, or_false] at hx
    rintro (h | h)
    ·exact hav x (by simp [hx]) q hq h
    ·rcases hx with rfl | rfl
     ·cases hq
     ·exact lt x _ _ hr q hq h
theorem avoids_less {av av' : Nat -> Prop} (h : ∀ b, av b -> av' b) {v : Value} (hv : avoids av' v) : avoids av v := by
 unfold avoids at *
 split at hv
 ·exact fun x hx b hb ha => hv x hx b hb (h b ha)
 ·trivial
theorem MakerR.less {w : World} {mb tb B : Nat} {of : List Nat} {av av' : Nat -> Prop} {m : Code.Mk} (h : MakerR w mb tb B of av' m) (ha : ∀ b, av b -> av' b) : MakerR w mb tb B of av m := by
 obtain ⟨ov, mv, h1, ⟨h2, h2a⟩, cs, h3, h4, h5⟩ := h
 exact ⟨ov, mv, h1, ⟨h2, fun b hb hx => h2a b hb (ha b hx)⟩, cs, h3, h4, fun u hu => avoids_less ha (h5 u hu)⟩
theorem MkIn.more {w0 w w2 : World} {th : Nat -> Option Code.Thing} {mb tb B : Nat} {of : List Nat} {av : Nat -> Prop} {m : Code.Mk} (h : MkIn w0 w th mb tb B of av m) (hb : Below w.heap.size w w2) {g : Nat} (hg : w.heap.size <= g) (hg2 : g < w2.heap.size) : MkIn w0 w2 th mb tb B of (fun b => av b \/ b = g) m := by
 have h1 := h.next hb
 refine ⟨fun b hb' => ?_, h1.hth, h1.ok, h1.hB, h1.hb, (h.hm.more hg).below hb, h1.hmb, h1.of60⟩
 rcases hb' with hb' | hb'
 ·exact h1.avl b hb'
 ·rw [hb']; exact hg2
theorem KinM.set_new {w w' : World} {mb B : Nat} (h : KinM w w' mb B) {b : Nat} (hb : w.heap.size <= b) (o : Nat) (v : Value) : KinM w (w'.setCell ⟨b, o, none⟩ v) mb B :=
 ⟨h.os, h.tape, h.output, by rw [size_set]; exact h.size, fun k p hk hn ht => stay_set (h.block k p hk hn ht) (by have := lt_of_block hk; show k ≠ b; omega)⟩
theorem MkIn.setAv {w0 w : World} {th : Nat -> Option Code.Thing} {mb tb B : Nat} {of : List Nat} {av : Nat -> Prop} {m : Code.Mk} (h : MkIn w0 w th mb tb B of av m) {g : Nat} (hg : av g) (hmg : mb ≠ g) (hBg : B <= g) {C : Array Value} {z : Nat × Nat} (hgb : w.heap[g]? = some (.cells C 3 z)) (o : Nat) (v : Value) : MkIn w0 (w.setCell ⟨g, o, none⟩ v) th mb tb B of av m :=
 ⟨fun b hb => by rw [size_set]; exact h.avl b hb, h.hth, h.ok, h.hB, h.hb.setCell (p := ⟨g, o, none⟩) hBg v, h.hm.setAv hg hmg hgb o v, h.hmb, h.of60⟩
def MkC (t : RTree) : Prop := ∀ (w0 w : World) (th : Nat -> Option Code.Thing) (kn : Code.Known) (mb tb B base : Nat) (of : List Nat) (av : Nat -> Prop) (m : Code.Mk) (rv : Value), MkIn w0 w th mb tb B of av m -> RepT w0 base true (LK of kn) rv t -> Code.Room m (Code.newC t) ->
 Calls Tryz.prog 174 #[.pointer (some ⟨mb, 0, none⟩), rv] w fun e w' => e = .returned (.int .i64 ((Code.mkVal th kn t m).1 : Nat)) /\ MakerR w' mb tb B of av (Code.mkVal th kn t m).2 /\ KinM w w' mb B
def ThC (t : RTree) : Prop := ∀ (w0 w : World) (th : Nat -> Option Code.Thing) (kn : Code.Known) (mb tb B base : Nat) (of : List Nat) (av : Nat -> Prop) (m : Code.Mk) (rv : Value), MkIn w0 w th mb tb B of av m -> RepT w0 base true (LK of kn) rv t -> Code.Room m (Code.newC t) ->
 Calls Tryz.prog 129 #[.pointer (some ⟨mb, 0, none⟩), rv] w fun e w' => ∃ v, e = .returned v /\ (ThingV w' 0 (Code.mkThing th kn t m).1 v /\ avoids av v) /\ MakerR w' mb tb B of av (Code.mkThing th kn t m).2 /\ KinM w w' mb B
theorem tMk_hash (v : Value) (w : World) : (Instr.typeAssert (.iface 316 v) 121 271 true).run Tryz.prog w = .ok (.tuple #[.agg #[.int .i64 0, .slice none 0 0], .bool false]) w := by kernel_rfl
theorem tMk_num (v : Value) (w : World) : (Instr.typeAssert (.iface 313 v) 121 271 true).run Tryz.prog w = .ok (.tuple #[.agg #[.int .i64 0, .slice none 0 0], .bool false]) w := by kernel_rfl
theorem tMk_fold (v : Value) (w : World) : (Instr.typeAssert (.iface 266 v) 121 271 true).run Tryz.prog w = .ok (.tuple #[.agg #[.int .i64 0, .slice none 0 0], .bool false]) w := by kernel_rfl
theorem tMk_make (v : Value) (w : World) : (Instr.typeAssert (.iface 271 v) 121 271 true).run Tryz.prog w = .ok (.tuple #[v, .bool true]) w := by kernel_rfl
theorem vNm_name (v : Value) (w : World) : (Instr.typeAssert (.iface 225 v) 121 225 true).run Tryz.prog w = .ok (.tuple #[v, .bool true]) w := by kernel_rfl
theorem vNm_hash (v : Value) (w : World) : (Instr.typeAssert (.iface 316 v) 121 225 true).run Tryz.prog w = .ok (.tuple #[.agg #[.int .i64 0], .bool false]) w := by kernel_rfl
theorem vNm_num (v : Value) (w : World) : (Instr.typeAssert (.iface 313 v) 121 225 true).run Tryz.prog w = .ok (.tuple #[.agg #[.int .i64 0], .bool false]) w := by kernel_rfl
theorem vNm_fold (v : Value) (w : World) : (Instr.typeAssert (.iface 266 v) 121 225 true).run Tryz.prog w = .ok (.tuple #[.agg #[.int .i64 0], .bool false]) w := by kernel_rfl
theorem vNm_make (v : Value) (w : World) : (Instr.typeAssert (.iface 271 v) 121 225 true).run Tryz.prog w = .ok (.tuple #[.agg #[.int .i64 0], .bool false]) w := by kernel_rfl
theorem thing_num (t : RTree) (ht : (∃ x, t = .hash x) \/ (∃ c, t = .num c) \/ ∃ k l, t = .fold k l) : ThC t := by
 intro w0 w th kn mb tb B base of av m rv hin hrep hroom
 have HN := hide (num_any t w0 w th kn mb tb B base of av m rv hin hrep)
 have HIN := hide hin
 have HT : Hid (Code.mkThing th kn t m = (.const (Code.numR th kn t), m)) := by
  rcases ht with ⟨x, rfl⟩ | ⟨c, rfl⟩ | ⟨k, l, rfl⟩ <;> exact rfl
 have hs : ∃ T x, rv = .iface T x /\ (Instr.typeAssert (.iface T x) 121 271 true).run Tryz.prog w = .ok (.tuple #[.agg #[.int .i64 0, .slice none 0 0], .bool false]) w := by
  rcases ht with ⟨x, rfl⟩ | ⟨c, rfl⟩ | ⟨k, l, rfl⟩
  ·obtain ⟨i, rfl, _⟩ := hrep
   exact ⟨_, _, rfl, tMk_hash _ _⟩
  ·obtain ⟨rfl, _⟩ := hrep
   exact ⟨_, _, rfl, tMk_num _ _⟩
  ·obtain ⟨sv, vs, rfl, _⟩ := hrep
   exact ⟨_, _, rfl, tMk_fold _ _⟩
 obtain ⟨T, x, rfl, t1⟩ := hs
 clear hin hrep ht
 generalize Code.numR th kn t = d at *
 go_enter Tryz.func129, Tryz.ntmps129
 go_wp2_with fail
 refine (HN.out).mono ?_
 rintro e w1 ⟨rfl, hb1⟩
 go_wp2
 go_ret
 rw [HT.out]
 exact ⟨_, rfl, ⟨rfl, fun x hx b hb => by simp at hx; subst hx; cases hb⟩, (HIN.out.next hb1).hm, KinM.below hb1⟩
theorem thing_op (k : Nat) (kids : List RTree) (ih : ∀ s ∈ kids, MkC s) : ThC (.op k kids) := by
 intro w0 w th kn mb tb B base of av m rv hin hrep hroom
 obtain ⟨i0, hi, hi0, hi1, hi2⟩ := info_parts infoInt
 obtain ⟨sv, vs, rfl, hk13, hvl, hown, hts⟩ := hrep
 simp only [if_true] at hown ⊢
 have hr := Code.opOf_range k hk13
 have hln := hts.length
 obtain ⟨g, cap, hge, _, hgl, hcell⟩ := row_open hown (by omega)
 subst hge
 have HCELL := hide hcell
 have HTS := hide hts
 have HIH := hide ih
 have HIN := hide hin
 have HROOM : Hid (Code.Room m (Code.newCs kids + 1)) := by
  simp only [Code.newC] at hroom
  rw [Nat.add_comm] at hroom
  exact hroom
 have HLN := hide hln
 have hv2 : vs.length <= 2 := by omega
 have hv1 : 1 <= vs.length := by omega
 have htop := hin.top
 obtain ⟨ov, mv, hmx, _⟩ := hin.hm
 have hmbl := lt_of_block hmx
 have hBB := hin.hB
 have t1 := tMk_make
 clear hin hown hts hcell ih hroom hvl hr hln
 go_enter Tryz.func129, Tryz.ntmps129
 go_wp2_with (first | (at_make; refine wpList_make_full _ rfl _ _ 31 rfl w.heap.size 3 i0 (.int .i64 0) 1 Tryz.underlying31 hi hi0 hi1 .i64 .i64 _ _ vs.length rfl rfl rfl rfl (by rw [hi2]; omega) (by unfold maxLen; omega) (by simp) ?_; intro w2 hown2 hgrow2; have hnr2 := natRow_made hown2; rw [alloc_size] at hnr2))
 have hx2 : w2.heap[w.heap.size]? = some (.cells #[.int .i64 (k : Nat), .slice (some ⟨g, 0, none⟩) vs.length cap] 271) := (hgrow2.block _ (by simp) (by simp)).trans (heap_alloc_new w _)
 have hb2 : Below w.heap.size w w2 := (below_al (Below.refl w.heap.size w) _).trans ⟨hgrow2.os, hgrow2.tape, hgrow2.output, hgrow2.size, fun k hk => hgrow2.block k (by simp; omega) (by simp)⟩
 clear hown2 hgrow2
 go_loopw [18] (fun i wr => ∃ j : Nat, j <= vs.length /\ i = .int .i64 j /\ Hid (MkIn w0 wr th mb tb B of (fun b => av b \/ b = w.heap.size + 1) (Code.mkAll th kn (kids.take j) m).2) /\ natRow wr (w.heap.size + 1) ((Code.mkAll th kn (kids.take j) m).1 ++ List.replicate (vs.length - j) 0) /\ wr.heap[w.heap.size]? = some (.cells #[.int .i64 (k : Nat), .slice (some ⟨g, 0, none⟩) vs.length cap] 271) /\ KinM w wr mb B) (fun i _ => vs.length - (intOf i).toNat)
 case atStart => exact ⟨0, by omega, rfl, hide (HIN.out.more hb2 (by omega) (lt_of_block hnr2)), by simpa [Code.mkAll] using hnr2, hx2, KinM.below hb2⟩
 case round =>
  obtain ⟨j, hj, rfl, HI, hnr, hx, hkm⟩ := hrel
  clear hnr2 hx2 hb2
  have hz := hkm.size
  by_cases hlt : j < vs.length
  ·have hlk : j < kids.length := by rw [<- HLN.out]; exact hlt
   have hrep := HTS.out.get j hlk hlt
   have e0 := HCELL.out j _ (List.getElem?_eq_getElem hlt)
   have hbw := HI.out.hb
   have e1 : wr.cell? ⟨g, j, none⟩ = some vs[j] := by
    have h := hbw.block g (by omega)
    simpa [World.cell?, h] using e0
   have HV := hide (HIH.out kids[j] (List.getElem_mem hlk) w0 wr th kn mb tb B base of _ _ vs[j] HI.out hrep (by
    have h1 := Code.newCs_take kids j hlk
    have h2 := Code.newCs_le kids (j + 1)
    have hr := Code.room_all th kn (kids.take j) m (Code.newCs kids + 1 - Code.newCs (kids.take j)) (by
     rw [Nat.sub_add_cancel (by have := Code.newCs_le kids j; omega)]
     exact HROOM.out)
    exact ⟨by have := hr.1; omega, by have := hr.2.1; omega, by have := hr.2.2; omega⟩))
   obtain ⟨T, x, hxv⟩ := hrep.shape
   rw [hxv] at e1 HV
   have HSN : Hid (Code.mkAll th kn (kids.take (j + 1)) m = ((Code.mkAll th kn (kids.take j) m).1 ++ [(Code.mkVal th kn kids[j] (Code.mkAll th kn (kids.take j) m).2).1], (Code.mkVal th kn kids[j] (Code.mkAll th kn (kids.take j) m).2).2)) := by
    refine hide ?_
    rw [List.take_add_one, List.getElem?_eq_getElem hlk]
    exact Code.mkAll_snoc th kn kids[j] _ m
   have hAl : (Code.mkAll th kn (kids.take j) m).1.length = j := by rw [Code.mkAll_len, List.length_take]; omega
   generalize Code.mkAll th kn (kids.take j) m = A at *
   generalize Code.mkVal th kn kids[j] A.2 = Vj at *
   have x1 := blk_cell hx 1 _ rfl
   have hxl := lt_of_block hx
   have hjl : (j : Int) < (vs.length : Int) := by omega
   clear hrep e0 hxv hbw
   go_wp2_with fail
   refine (HV.out).mono ?_
   rintro e w3 ⟨rfl, hm3, hk3⟩
   have hnr3 : natRow w3 (w.heap.size + 1) (A.1 ++ List.replicate (vs.length - j) 0) := hk3.block _ _ hnr (by omega) (Or.inr (by intro C z h; simp only [Obj.cells.injEq] at h; exact absurd h.2.1 (by decide)))
   have hx3 := hk3.block _ _ hx (by omega) (Or.inr (by intro C z h; simp only [Obj.cells.injEq] at h; exact absurd h.2.1 (by decide)))
   have HI3 := hide (HI.out.step hk3 hm3)
   obtain ⟨u, hu⟩ : ∃ u, w3.cell? ⟨w.heap.size + 1, j, none⟩ = some u := ⟨_, hnr3.cell j (by simp; omega)⟩
   have hfz := blk_froz hnr3 j
   have hG : mb ≠ w.heap.size + 1 := by omega
   clear hm3
   go_wp2
   have hs := hnr3.set j Vj.1
   have hset : (A.1 ++ List.replicate (vs.length - j) 0).set j Vj.1 = A.1 ++ [Vj.1] ++ List.replicate (vs.length - (j + 1)) 0 := by
    rw [List.set_append_right _ _ (by omega), hAl, Nat.sub_self, show vs.length - j = (vs.length - (j + 1)) + 1 by omega, List.replicate_succ, List.set_cons_zero, List.append_assoc]
    rfl
   rw [hset] at hs
   refine ⟨⟨j + 1, by omega, by go_num, ?_, by rw [HSN.out]; exact hs, stay_set hx3 (show w.heap.size ≠ w.heap.size + 1 by omega), (hkm.trans hk3).set_new (by omega) _ _⟩, by simp [intOf]; omega⟩
   rw [HSN.out]
   exact hide (HI3.out.setAv (Or.inr rfl) hG (by omega) hnr3 _ _)
  ·have hjv : j = vs.length := by omega
   have hkl : kids.take j = kids := List.take_of_length_le (by rw [<- HLN.out]; omega)
   rw [hkl, show vs.length - j = 0 by omega, List.replicate_zero, List.append_nil] at hnr
   rw [hkl] at HI
   have hAl : (Code.mkAll th kn kids m).1.length = vs.length := by rw [Code.mkAll_len, HLN.out]
   have HO := hide (hnr.own (base := 0) (Nat.zero_le _) (by unfold maxLen; omega))
   rw [hAl] at HO
   have x0 := blk_cell hx 0 _ rfl
   have HAV : Hid (¬ av (w.heap.size + 1)) := hide (fun h => by
    have := HIN.out.avl _ h
    omega)
   clear hnr
   go_wp2
   go_ret
   refine ⟨_, rfl, ⟨⟨_, rfl, by rw [hAl]; exact HO.out⟩, fun x hx b hb => ?_⟩, HI.out.hm.less (fun b hb => Or.inl hb), hkm⟩
   simp only [List.mem_toArray, List.mem_cons, List.not_mem_nil, or_false] at hx
   rcases hx with rfl | rfl
   ·cases hb
   ·cases hb
    exact HAV.out
theorem value_name (x : List UInt8) : MkC (.name x) := by
 intro w0 w th kn mb tb B base of av m rv hin hrep hroom
 obtain ⟨i, rfl, k, rfl, hk, hkn⟩ := hrep
 have HIN := hide hin
 obtain ⟨ov, mv, hx, ⟨hov, hoa⟩, cs, hmv, hvc⟩ := hin.hm
 have HV : Hid (Code.mkVal th kn (.name x) m = (of[k], m)) := by
  refine hide ?_
  simp only [Code.mkVal]
  simp only at hkn
  rw [hkn]
 have hml := lt_of_block hx
 obtain ⟨p', c', rfl, hval⟩ := nats_open hov
 obtain ⟨g, rfl, e0⟩ := hval k hk
 obtain ⟨mp, mc, rfl⟩ := own_slice hmv
 have c1 := blk_cell hx 1 _ rfl
 have hgl : g < w.heap.size := by
  cases hh : w.heap[g]? with
  | none => simp [World.cell?, hh] at e0
  | some o => exact lt_of_block hh
 have t1 := vNm_name
 have hkl : (k : Int) < (of.length : Int) := by omega
 clear hin hov hmv hvc hval hkn hoa
 generalize of[k] = fk at *
 go_enter Tryz.func174, Tryz.ntmps174
 go_wp2_with fail
 go_quiet (fail)
 go_wp2
 go_ret
 rw [HV.out]
 have hbN : Below w.heap.size w _ := belowN (below_al (Below.refl w.heap.size w) (.cells #[.int .i64 (k : Nat)] 225)) nq
 exact ⟨rfl, (HIN.out.next hbN).hm, KinM.below hbN⟩
theorem value_new (t : RTree) (ht : ∀ x, t ≠ .name x) (hT : ThC t) : MkC t := by
 intro w0 w th kn mb tb B base of av m rv hin hrep hroom
 obtain ⟨i0, hi, hz0, hz1, hz2⟩ := info_parts infoVal
 have HTH := hide (hT w0 w th kn mb tb B base of av m rv hin hrep hroom)
 have HIN := hide hin
 have HMV : Hid (Code.mkVal th kn t m = (Code.mkThing th kn t m).2.put th (Code.mkThing th kn t m).1) := by
  cases t with
  | name x => exact absurd rfl (ht x)
  | _ => exact rfl
 have hr2 : Code.Room (Code.mkThing th kn t m).2 1 := by
  cases t with
  | name x => exact absurd rfl (ht x)
  | op k l =>
   simp only [Code.newC] at hroom
   exact Code.room_all th kn l m 1 hroom
  | num c => exact hroom
  | hash x => exact hroom
  | fold k l => exact hroom
 have hs : ∃ T x, rv = .iface T x /\ (Instr.typeAssert (.iface T x) 121 225 true).run Tryz.prog w = .ok (.tuple #[.agg #[.int .i64 0], .bool false]) w := by
  cases t with
  | name x => exact absurd rfl (ht x)
  | op k l =>
   obtain ⟨sv, vs, rfl, _⟩ := hrep
   exact ⟨_, _, rfl, vNm_make _ _⟩
  | num c =>
   obtain ⟨rfl, _⟩ := hrep
   exact ⟨_, _, rfl, vNm_num _ _⟩
  | hash x =>
   obtain ⟨i, rfl, _⟩ := hrep
   exact ⟨_, _, rfl, vNm_hash _ _⟩
  | fold k l =>
   obtain ⟨sv, vs, rfl, _⟩ := hrep
   exact ⟨_, _, rfl, vNm_fold _ _⟩
 obtain ⟨T, x, rfl, t1⟩ := hs
 clear hin hrep hT hroom
 generalize Code.mkThing th kn t m = MT at *
 go_enter Tryz.func174, Tryz.ntmps174
 go_wp2_with fail
 refine (HTH.out).mono ?_
 rintro e w1 ⟨v1, rfl, ⟨hv1, hav1⟩, hm1, hk1⟩
 have HI1 := hide (HIN.out.step hk1 hm1)
 obtain ⟨T1, x1, rfl⟩ := hv1.shape
 have HV1 := hide hv1
 have HAV1 := hide hav1
 have HK1 := hide hk1
 clear hm1 hv1 hav1 hk1
 go_wp2_with fail
 refine (free_any w0 w1 th mb tb B of av MT.2 HI1.out (by have := hr2.2.1; omega)).mono ?_
 rintro e w2 ⟨rfl, hm2, hk2⟩
 have HI2 := hide (HI1.out.step hk2 hm2)
 have hfl := Code.freeFrom_le th MT.2.next
 generalize hN : Code.freeFrom th MT.2.next = N at *
 have HNN := hide hN
 obtain ⟨ov, mv, hx, ⟨hov, hoa⟩, cs, hmv, hvc, hca⟩ := hm2
 have hml := lt_of_block hx
 have HOV := hide hov
 have HOA := hide hoa
 have HVC := hide hvc
 have HCA := hide hca
 have HMV2 := hide hmv
 obtain ⟨op, oc, rfl⟩ := own_slice hov
 obtain ⟨mp, mc, rfl⟩ := own_slice hmv
 have c2 := blk_cell hx 2 _ rfl
 have htop := HI2.out.top
 have hmlen : MT.2.made.length + 1 <= 100000 := hr2.1
 clear hov hoa hvc hca hN
 go_wp2_with (first | (at_builtin; refine wpList_append_own _ rfl _ _ 161 rfl B 169 i0 (.agg #[.int .i64 0, .nilIface]) 2 24 Tryz.underlying161 hi hz0 hz1 hz2 rfl (by decide) _ _ _ rfl (hmv.alloc _) ⟨_, 0, none⟩ 1 1 [.int .i64 (N : Nat), .iface T1 x1] rfl rfl (D.cells_new _ _ _) (by simp [Value.oneCell']) (by unfold maxLen; omega) (by omega) (by simp; omega) ?_; intro v' w3 hown' hgrow hnil; obtain ⟨vp, vc, rfl⟩ := own_slice hown'; have hx3 : w3.heap[mb]? = some (.cells #[.pointer (some ⟨tb, 0, none⟩), .slice op of.length oc, .slice mp MT.2.made.length mc, .int .i64 ((N + 1 : Nat) : Nat)] 229) := stay_grown (hmv.alloc _) hgrow (stay_alloc hx) (by decide); have d2 := blk_cell hx3 2 _ rfl; have y2 := blk_froz hx3 2))
 go_ret
 rw [HMV.out]
 have hput : MT.2.put th MT.1 = (N, ⟨MT.2.made ++ [⟨N, MT.1⟩], N + 1⟩) := by
  unfold Code.Mk.put
  rw [HNN.out]
 rw [hput]
 obtain ⟨o1, m1, hx1, _⟩ := HI1.out.hm
 have hkeep : ∀ r n xs, w2.ownsRow 0 3 1 r n xs -> (w3.setCell ⟨mb, 2, none⟩ (.slice vp (MT.2.made.length + 1) vc)).ownsRow 0 3 1 r n xs := fun r n xs h => own_set (own_grown (hmv.alloc _) (h.alloc _) (by decide) hgrow) hx3 (by decide)
 refine ⟨rfl, ⟨_, _, set_block hx3, ⟨hkeep _ _ _ HOV.out, HOA.out⟩, cs ++ [.int .i64 (N : Nat), .iface T1 x1], ?_, ?_, ?_⟩, ((HK1.out.trans hk2).trans (KinM.below (below_al (Below.refl _ _) _))).trans ((KinM.grown (hmv.alloc _) (Nat.le_refl _) hgrow).trans KinM.set)⟩
 ·have h := own_set (o := 2) (u := .slice vp (MT.2.made.length + 1) vc) hown' hx3 (by decide)
  simpa using h
 ·refine (HVC.out.mono hkeep).app ⟨rfl, fun i hi => ?_⟩
  have hi0 : i = 0 := by simpa using hi
  subst hi0
  exact ⟨_, rfl, rfl, HV1.out.mono (fun r n xs h => hkeep r n xs (hk2.own hx1 h (by decide) (by decide)))⟩
 ·intro u hu
  rcases List.mem_append.1 hu with hu | hu
  ·exact HCA.out u hu
  ·simp only [List.mem_cons, List.not_mem_nil, or_false] at hu
   rcases hu with rfl | rfl
   ·trivial
   ·exact HAV1.out
mutual
theorem mkValue_any : ∀ t : RTree, MkC t
 | .name x => value_name x
 | .hash x => value_new _ (fun _ h => by cases h) (thing_num _ (Or.inl ⟨x, rfl⟩))
 | .num c => value_new _ (fun _ h => by cases h) (thing_num _ (Or.inr (Or.inl ⟨c, rfl⟩)))
 | .fold k l => value_new _ (fun _ h => by cases h) (thing_num _ (Or.inr (Or.inr ⟨k, l, rfl⟩)))
 | .op k kids => value_new _ (fun _ h => by cases h) (thing_op k kids (mkValues_any kids))
theorem mkValues_any : ∀ (l : List RTree), ∀ s ∈ l, MkC s
 | [], _, h => by cases h
 | t :: l, s, h => by
  rcases List.mem_cons.1 h with h | h
  ·rw [h]; exact mkValue_any t
  ·exact mkValues_any l s h
end
theorem mkThing_any (t : RTree) (ht : ∀ x, t ≠ .name x) : ThC t := by
 cases t with
 | name x => exact absurd rfl (ht x)
 | hash x => exact thing_num _ (Or.inl ⟨x, rfl⟩)
 | num c => exact thing_num _ (Or.inr (Or.inl ⟨c, rfl⟩))
 | fold k l => exact thing_num _ (Or.inr (Or.inr ⟨k, l, rfl⟩))
 | op k kids => exact thing_op k kids (mkValues_any kids)
end Go.Proofs.YtedkjanogjglkaaGreatDoor
