/-
  Parts of the proof: RTextW, LRowG, RwMade, RScan, RText, RRep, ROper, Rep, XParse, RefRepB, RefParse.
-/
import Derived.Test.YtedkjanogjglkaaGreatDoorP01
import Derived.Test.YtedkjanogjglkaaGreatDoorP11
import Derived.Lib.AppendIntMem
import Derived.Test.YtedkjanogjglkaaGreatDoorTie
import Derived.ProofKit
import Derived.OpenShut
import Derived.Lay
import Derived.MakeChecks
import Derived.SevenTiedAt
import Derived.Stop.Joined
import Derived.Test.YtedkjanogjglkaaGreatDoorP02
import Derived.Test.YtedkjanogjglkaaGreatDoorP10
import Derived.Deep.RegionHeld3
import Derived.BigRegion
import Derived.Test.YtedkjanogjglkaaGreatDoorP08
import Derived.Deep.AppendLies
set_option maxRecDepth 100000
set_option maxHeartbeats 2000000
namespace Go.Proofs.YtedkjanogjglkaaGreatDoor
open Go.RowKit
def TabI (w : World) : Prop := Lib.TabIs Tryz.prog w "internal/strconv.uint64pow10" .u64 Lib.pow10Tab
theorem TabI.below {w w' : World} (h : TabI w) (hb : Below w.heap.size w w') : TabI w' := Lib.tabBelow_of_tabIs h w' hb
theorem itoa_any (n : Int) (h0 : -9223372036854775808 <= n) (h1 : n <= 9223372036854775807) (w : World) (ht : TabI w) :
  Calls Tryz.prog 132 #[.int .i64 n] w fun e w' => e = .returned (.string (bs (Lib.itoa n))) /\ Below w.heap.size w w' := by
 refine (itoa_lib n h0 h1 w ht).mono ?_
 rintro e w' ⟨rfl, k, os, rfl⟩
 exact ⟨rfl, Lib.below_grow _ _ (Nat.le_refl _) _ _⟩
def IntsAt (w : World) (v : Value) (ns : List Int) : Prop := ∃ p c, v = .slice p ns.length c /\ ∀ j (h : j < ns.length), ∃ g, p = some ⟨g, 0, none⟩ /\ w.cell? ⟨g, j, none⟩ = some (.int .i64 ns[j])
theorem IntsAt.below {w w' : World} {v : Value} {ns : List Int} (h : IntsAt w v ns) (hb : Below w.heap.size w w') : IntsAt w' v ns := by
 obtain ⟨p, c, rfl, hc⟩ := h
 refine ⟨p, c, rfl, fun j hj => ?_⟩
 obtain ⟨g, hg, hx⟩ := hc j hj
 refine ⟨g, hg, ?_⟩
 have hlt : g < w.heap.size := by
  cases hh : w.heap[g]? with
  | none => simp [World.cell?, hh] at hx
  | some o => exact lt_of_block hh
 have h2 := hb.block g hlt
 simpa [World.cell?, h2] using hx
theorem IntsAt.nats {w : World} {base : Nat} {v : Value} {l : List Nat} (h : w.ownsRow base 3 1 v l.length (nats l)) : IntsAt w v (Code.ofNats l) := by
 obtain ⟨p, c, rfl, hc⟩ := nats_open h
 refine ⟨p, c, by simp [Code.ofNats], fun j hj => ?_⟩
 have hj' : j < l.length := by simpa [Code.ofNats] using hj
 obtain ⟨g, hg, hx⟩ := hc j hj'
 exact ⟨g, hg, by simpa [Code.ofNats] using hx⟩
theorem numb_take {mark : List UInt8} {ns : List Int} {k : Nat} (h : k < ns.length) : Code.numb mark (ns.take (k + 1)) = Code.numb mark (ns.take k) ++ (mark ++ Lib.itoa ns[k]) := Code.flat_take _ (List.getElem?_eq_getElem h)
theorem numbered_any (mark : List UInt8) (ns : List Int) (v : Value) (w : World) (hv : IntsAt w v ns) (hin : ∀ n ∈ ns, -9223372036854775808 <= n /\ n <= 9223372036854775807) (hlen : ns.length <= 1000000) (hmk : mark.length <= 100) (ht : TabI w) :
  Calls Tryz.prog 80 #[.string (bs mark), v] w fun e w' => e = .returned (.string (bs (Code.numb mark ns))) /\ Below w.heap.size w w' := by
 have HV := hide hv
 have HI := hide hin
 have HT := hide ht
 obtain ⟨p, c, rfl, _⟩ := hv
 clear hin ht
 go_enter Tryz.func80, Tryz.ntmps80
 go_wp2
 go_loopw [5, 10] (fun t i wr => ∃ k : Nat, k <= ns.length /\ i = .int .i64 k /\ t = .string (bs (Code.numb mark (ns.take k))) /\ Below w.heap.size w wr) (fun _ i _ => ns.length - (intOf i).toNat)
 case atStart => exact ⟨0, by omega, rfl, rfl, Below.refl _ _⟩
 case round =>
  obtain ⟨k, hk, rfl, rfl, hbw⟩ := hrel
  by_cases hlt : k < ns.length
  ·obtain ⟨p', c', hpe, hcell⟩ := HV.out.below hbw
   simp only [Value.slice.injEq] at hpe
   obtain ⟨rfl, _, rfl⟩ := hpe
   obtain ⟨g, rfl, e0⟩ := hcell k hlt
   have HS : Hid (bs (Code.numb mark (ns.take (k + 1))) = _) := hide (congrArg bs (numb_take (mark := mark) hlt))
   have HN := hide (HI.out ns[k] (List.getElem_mem hlt))
   have hjl : (k : Int) < (ns.length : Int) := by omega
   have hTl : (bs (Code.numb mark (List.take k ns))).size <= 200000000 := by
    rw [bs_size]
    have h1 := Code.numb_len mark (ns.take k) (fun n hn => HI.out n (List.mem_of_mem_take hn))
    have h2 : (ns.take k).length * (mark.length + 21) <= 1000000 * 121 := Nat.mul_le_mul (by simp; omega) (by omega)
    omega
   have hml : (bs mark).size <= 100 := by rw [bs_size]; exact hmk
   generalize ns[k] = x at *
   have hxl : (bs (Lib.itoa x)).size <= 21 := by rw [bs_size]; exact Lib.itoa_length_le x HN.out.1 HN.out.2
   generalize Code.numb mark (List.take k ns) = T at *
   have HIT := hide (itoa_any x HN.out.1 HN.out.2 _ (HT.out.below hbw))
   rw [<- bs_append, <- bs_append] at HS
   generalize bs T = t at *
   generalize bs mark = m at *
   generalize bs (Lib.itoa x) = y at *
   clear hcell
   go_wp2_with fail
   refine HIT.out.mono ?_
   rintro e w3 ⟨rfl, hb3⟩
   have hyl : (m ++ y).size <= 121 := by rw [ByteArray.size_append']; omega
   go_wp2
   exact ⟨⟨k + 1, by omega, by go_num, congrArg Value.string HS.out.symm, hbw.trans (hb3.mono hbw.size)⟩, by simp [intOf]; omega⟩
  ·have hjl : k = ns.length := by omega
   subst hjl
   rw [List.take_length]
   go_wp2
   go_ret
   exact ⟨rfl, hbw⟩
theorem opName_any (k : Nat) (w : World) (hk : k < 13) (ht : Tab w) :
  Calls Tryz.prog 133 #[.int .i64 (k : Nat)] w fun e w' => e = .returned (.string (bs (Code.opName k))) /\ w' = w := by
 have hc := ht _ _ (opCells_at k hk).1
 rw [Nat.zero_add] at hc
 have hc' : w.cell? ⟨0, k * 3, none⟩ = some (.string (bs (Code.opName k))) := hc
 have hk' : (k : Int) < 13 := by omega
 clear hc
 generalize Code.opName k = N at *
 go_enter Tryz.func133, Tryz.ntmps133
 go_wp2
 go_ret
 exact ⟨rfl, rfl⟩
open Go.ChangeShapes Go.WideShapes Go.ChangeAt Go.RowKit
theorem ownK : ownKnob Tryz.prog.godebug = none := by kernel_rfl
theorem three_of {α : Type} : ∀ {l : List α}, l.length = 3 -> ∃ a b c, l = [a, b, c]
 | [a, b, c], _ => ⟨a, b, c, rfl⟩
 | [], h => by cases h
 | [_], h => by cases h
 | [_, _], h => by cases h
 | _ :: _ :: _ :: _ :: _, h => by simp only [List.length_cons] at h; omega
theorem row_cells {W : World} {n : Nat} {c : List Value} {a : List UInt8} {b d : Int} {p : List MemPlace}
  (h : DataW.trod (fun _ => ()) Tryz.prog W 0 (fun _ => true) false n 301 c = some (.agg [.lit (.string a), .lit (.int .i64 b), .lit (.int .i64 d)], p)) : c = [.string (bs a), .int .i64 b, .int .i64 d] := by
 obtain ⟨ys, m, _, ex, hl, hy, hf⟩ := DataW.trod_struct Tryz.underlying301 h
 have h3 : Tryz.prog.cellsOf 301 = 3 := by kernel_rfl
 have hs1 : Tryz.prog.cellsOf 9 = 1 := by kernel_rfl
 have hi1 : Tryz.prog.cellsOf 3 = 1 := by kernel_rfl
 rw [h3] at hl
 obtain ⟨c0, c1, c2, rfl⟩ := three_of hl
 obtain ⟨y0, y1, y2, rfl⟩ := three_of (show ys.length = 3 from hy)
 have h0 : DataW.trod (fun _ => ()) Tryz.prog W 0 (fun _ => true) false m 9 (([c0, c1, c2].drop 0).take (Tryz.prog.cellsOf 9)) = some y0 := hf 0 _ rfl
 have h1 : DataW.trod (fun _ => ()) Tryz.prog W 0 (fun _ => true) false m 3 (([c0, c1, c2].drop 1).take (Tryz.prog.cellsOf 3)) = some y1 := hf 1 _ rfl
 have h2 : DataW.trod (fun _ => ()) Tryz.prog W 0 (fun _ => true) false m 3 (([c0, c1, c2].drop 2).take (Tryz.prog.cellsOf 3)) = some y2 := hf 2 _ rfl
 rw [hs1] at h0
 rw [hi1] at h1 h2
 obtain ⟨s, e0, f0, _⟩ := DataW.trod_string Tryz.underlying9 h0
 obtain ⟨x, e1, f1, _⟩ := DataW.trod_int Tryz.underlying3 h1
 obtain ⟨z, e2, f2, _⟩ := DataW.trod_int Tryz.underlying3 h2
 have ex1 := (Prod.mk.inj ex).1
 simp only [List.map_cons, List.map_nil, DataW.agg.injEq, List.cons.injEq, and_true] at ex1
 obtain ⟨g0, g1, g2⟩ := ex1
 rw [f0] at g0
 rw [f1] at g1
 rw [f2] at g2
 simp only [DataW.lit.injEq, Lit.string.injEq, Lit.int.injEq, true_and] at g0 g1 g2
 have k0 : c0 = .string s := by simpa using e0
 have k1 : c1 = .int .i64 x := by simpa using e1
 have k2 : c2 = .int .i64 z := by simpa using e2
 subst g1 g2
 rw [k0, k1, k2, g0]
 rfl
abbrev laid4 : List (String × DataW Unit) := [("math/bits.deBruijn32tab", Rows.laid_math_bits_deBruijn32tab), ("math/bits.deBruijn64tab", Rows.laid_math_bits_deBruijn64tab), ("internal/strconv.uint64pow10", Rows.laid_internal_strconv_uint64pow10), ("chisel/code.opTable", Rows.laid_chisel_code_opTable)]
theorem laidVars_tail {P : Program} {w : World} {n : String} {d : DataW Unit} {r : List (String × DataW Unit)} {ps : List MemPlace} (h : DataW.LaidVars P w ((n, d) :: r) ps) : ∃ qs, DataW.LaidVars P w r qs := by
 obtain ⟨_, _, _, _, _, q, _, _, _, _, hq, _⟩ := h
 exact ⟨q, hq⟩
theorem tabI_of_laid {W : World} (h : laidMetH Tryz.prog laid4 W) : TabI W := by
 rw [MakeChecks.laidMetH_plain _ _ _ (by kernel_rfl)] at h
 obtain ⟨ps, h0, _, _⟩ := h
 obtain ⟨p1, h1⟩ := laidVars_tail h0
 obtain ⟨p2, h2⟩ := laidVars_tail h1
 obtain ⟨g, t, cs, fuel, p, q, hg, ht, hv, hd, _, _⟩ := h2
 have hty : (do let g <- Tryz.prog.globalNamed "internal/strconv.uint64pow10"; (Tryz.prog.globals[g]?).map (·.type)) = some 352 := by kernel_rfl
 rw [hg] at hty
 have hty' : (Tryz.prog.globals[g]?).map (·.type) = some 352 := hty
 obtain rfl := Option.some.inj (hty'.symm.trans ht)
 unfold TabI Lib.TabIs
 have hd' : DataW.trod (fun _ => ()) Tryz.prog W 0 (fun _ => true) false fuel 352 cs.toList = some (Lib.tabData .u64 Lib.pow10Tab, p) := hd
 have := Lib.cells_of_tab Tryz.underlying352 Tryz.underlying346 (by kernel_rfl) (by kernel_rfl) hd'
 rw [hv, <- this]
theorem tab_of_laid {W : World} (h : laidMetH Tryz.prog laid4 W) : Tab W := by
 rw [MakeChecks.laidMetH_plain _ _ _ (by kernel_rfl)] at h
 obtain ⟨ps, h0, _, _⟩ := h
 obtain ⟨p1, h1⟩ := laidVars_tail h0
 obtain ⟨p2, h2⟩ := laidVars_tail h1
 obtain ⟨p3, h3'⟩ := laidVars_tail h2
 obtain ⟨g, t, cs, fuel, p, q, hg, ht, hv, hd, _, _⟩ := h3'
 obtain rfl := Option.some.inj ((show Tryz.prog.globalNamed "chisel/code.opTable" = some 0 by kernel_rfl).symm.trans hg)
 obtain rfl := Option.some.inj ((show (Tryz.prog.globals[0]?).map (·.type) = some 302 by kernel_rfl).symm.trans ht)
 obtain ⟨xs, m, _, ex, hcl, hl, hel⟩ := DataW.trod_array Tryz.underlying302 hd
 have h3 : Tryz.prog.cellsOf 301 = 3 := by kernel_rfl
 have h39 : Tryz.prog.cellsOf 302 = 39 := by kernel_rfl
 rw [h39] at hcl
 have e3 : (xs.map (·.1)) = _ := (DataW.agg.inj (Prod.mk.inj ex).1).symm
 have key : ∀ i, i < 13 -> (cs.toList.drop (i * 3)).take 3 = (opCells.drop (i * 3)).take 3 := by
  intro i hi
  have hE := hel i hi
  rw [h3, List.getElem?_eq_getElem (by omega)] at hE
  have e4 : (xs.map (·.1))[i]? = some (xs[i]'(by omega)).1 := by rw [List.getElem?_map, List.getElem?_eq_getElem (by omega)]; rfl
  rw [e3] at e4
  generalize xs[i]'(by omega) = y at hE e4
  obtain ⟨yd, yp⟩ := y
  match i, hi with
  | 0, _ | 1, _ | 2, _ | 3, _ | 4, _ | 5, _ | 6, _ | 7, _ | 8, _ | 9, _ | 10, _ | 11, _ | 12, _ =>
   have e5 := Option.some.inj e4
   subst e5
   rw [row_cells hE]
   rfl
 intro j v hj
 rw [Nat.zero_add, World.var?_cell hg hv j]
 have hj39 : j < 39 := by
  have := (List.getElem?_eq_some_iff.1 hj).1
  exact this
 have hk := congrArg (fun l => l[j % 3]?) (key (j / 3) (by omega))
 simp only [List.getElem?_take, List.getElem?_drop, if_pos (Nat.mod_lt j (by omega : 3 > 0))] at hk
 rw [show j / 3 * 3 + j % 3 = j by omega, hj] at hk
 simpa using hk
end Go.Proofs.YtedkjanogjglkaaGreatDoor
namespace Go.Proofs.YtedkjanogjglkaaGreatDoor.Code
def AtP (bks : List Blk) (x j k : Nat) : Prop := ∃ (h : j < bks.length) (hk : k < (bks[j]).values.length), ((bks[j]).values[k]).num = x
def RB (bks : List Blk) (but j : Nat) : Prop := ∀ S : Nat -> Prop, S 0 -> (∀ a (h : a < bks.length) (t : Nat), S a -> t ∈ tg (bks[a]).last -> t ≠ but -> S t) -> S j
def Rch (bks : List Blk) (j : Nat) : Prop := ∀ S : Nat -> Prop, S 0 -> (∀ a (h : a < bks.length) (t : Nat), S a -> t ∈ tg (bks[a]).last -> S t) -> S j
def Dom (bks : List Blk) (a j : Nat) : Prop := ¬ (a ≠ 0 /\ RB bks a j)
def MadeC (bks : List Blk) (x j m : Nat) : Prop := ∃ a k, AtP bks x a k /\ ((a = j /\ k < m) \/ (a ≠ j /\ Dom bks a j))
def Uniq (bks : List Blk) : Prop := ∀ x j k j' k', AtP bks x j k -> AtP bks x j' k' -> j = j' /\ k = k'
theorem RB.zero (bks : List Blk) (b : Nat) : RB bks b 0 := fun _ h _ => h
theorem RB.step {bks : List Blk} {b a t : Nat} (h : RB bks b a) (ha : a < bks.length) (ht : t ∈ tg (bks[a]).last) (hb : t ≠ b) : RB bks b t :=
 fun S h0 hs => hs a ha t (h S h0 hs) ht hb
theorem Dom.trans {bks : List Blk} {c a j : Nat} (h1 : Dom bks c a) (h2 : Dom bks a j) : Dom bks c j := by
 rintro ⟨hc, hr⟩
 by_cases ha : a = 0
 ·subst ha
  exact h1 ⟨hc, RB.zero bks c⟩
 ·have hS := hr (fun t => RB bks c a \/ (RB bks a t /\ RB bks c t)) (Or.inr ⟨RB.zero _ _, RB.zero _ _⟩) (by
   rintro u hu t (h | ⟨h3, h4⟩) ht hne
   ·exact Or.inl h
   ·have h5 := h4.step hu ht hne
    by_cases hta : t = a
    ·subst hta; exact Or.inl h5
    ·exact Or.inr ⟨h3.step hu ht hta, h5⟩)
  rcases hS with h | ⟨h, _⟩
  ·exact h1 ⟨hc, h⟩
  ·exact h2 ⟨ha, h⟩
theorem Dom.anti {bks : List Blk} {a j : Nat} (hr : Rch bks j) (h1 : Dom bks j a) (h2 : Dom bks a j) : a = j := by
 by_cases hne : a = j
 ·exact hne
 ·exfalso
  by_cases hj : j = 0
  ·subst hj
   exact h2 ⟨hne, RB.zero _ _⟩
  ·by_cases ha : a = 0
   ·subst ha
    exact h1 ⟨hj, RB.zero _ _⟩
   ·have hS := hr (fun t => RB bks a t /\ RB bks j t) ⟨RB.zero _ _, RB.zero _ _⟩ (by
     rintro u hu t ⟨h3, h4⟩ ht
     by_cases hta : t = a
     ·subst hta
      exact absurd ⟨hj, h4.step hu ht hne⟩ h1
     ·by_cases htj : t = j
      ·subst htj
       exact absurd ⟨ha, h3.step hu ht (fun h => hne h.symm)⟩ h2
      ·exact ⟨h3.step hu ht hta, h4.step hu ht htj⟩)
    exact h2 ⟨ha, hS.1⟩
theorem MadeC.trans {bks : List Blk} (hu : Uniq bks) (hr : ∀ j, j < bks.length -> Rch bks j) {x y a k j m : Nat} (hy : AtP bks y a k) (hx : MadeC bks x a k) (hm : MadeC bks y j m) (hj : j < bks.length) : MadeC bks x j m := by
 obtain ⟨a', k', hy', hm⟩ := hm
 obtain ⟨rfl, rfl⟩ := hu _ _ _ _ _ hy hy'
 obtain ⟨c, l, hc, hx⟩ := hx
 refine ⟨c, l, hc, ?_⟩
 rcases hm with ⟨rfl, hk⟩ | ⟨hne, hd⟩
 ·rcases hx with ⟨rfl, hl⟩ | ⟨hne, hd⟩
  ·exact Or.inl ⟨rfl, by omega⟩
  ·exact Or.inr ⟨hne, hd⟩
 ·rcases hx with ⟨rfl, hl⟩ | ⟨hne', hd'⟩
  ·exact Or.inr ⟨hne, hd⟩
  ·by_cases hcj : c = j
   ·subst hcj
    exact absurd (Dom.anti (hr c hj) hd' hd) hne
   ·exact Or.inr ⟨hcj, hd'.trans hd⟩
structure SameWays (f g : List Blk) : Prop where
 len : g.length = f.length
 tg : ∀ j (h : j < f.length) (h' : j < g.length), tg (g[j]).last = tg (f[j]).last
theorem SameWays.rb {f g : List Blk} (h : SameWays f g) {b j : Nat} : RB g b j ↔ RB f b j := by
 constructor
 ·intro hr S h0 hs
  exact hr S h0 fun a ha t hS ht hb => hs a (by rw [<- h.len]; exact ha) t hS (by rw [<- h.tg a (by rw [<- h.len]; exact ha) ha]; exact ht) hb
 ·intro hr S h0 hs
  exact hr S h0 fun a ha t hS ht hb => hs a (by rw [h.len]; exact ha) t hS (by rw [h.tg a ha (by rw [h.len]; exact ha)]; exact ht) hb
theorem SameWays.dom {f g : List Blk} (h : SameWays f g) {a j : Nat} (hd : Dom f a j) : Dom g a j := fun ⟨h1, h2⟩ => hd ⟨h1, h.rb.1 h2⟩
theorem SameWays.rch {f g : List Blk} (h : SameWays f g) {j : Nat} (hr : Rch f j) : Rch g j := by
 intro S h0 hs
 exact hr S h0 fun a ha t hS ht => hs a (by rw [h.len]; exact ha) t hS (by rw [h.tg a ha (by rw [h.len]; exact ha)]; exact ht)
theorem MadeC.move {f g : List Blk} (hw : SameWays f g) {P : Nat -> Nat -> Nat} {x j m m' : Nat} (hp : ∀ a k, AtP f x a k -> AtP g x a (P a k)) (hm : ∀ k, AtP f x j k -> k < m -> P j k < m') (h : MadeC f x j m) : MadeC g x j m' := by
 obtain ⟨a, k, ha, h⟩ := h
 refine ⟨a, P a k, hp a k ha, ?_⟩
 rcases h with ⟨rfl, hk⟩ | ⟨hne, hd⟩
 ·exact Or.inl ⟨rfl, hm k ha hk⟩
 ·exact Or.inr ⟨hne, hw.dom hd⟩
end Go.Proofs.YtedkjanogjglkaaGreatDoor.Code
namespace Go.Proofs.YtedkjanogjglkaaGreatDoor
open Go.RowKit
def FailsAt (w : World) (rb : Nat) (l why : Int) (e : Ending) (w' : World) : Prop :=
 e = .panicked [{ v := .iface 61 (.agg #[.int .i64 why, .int .i64 l]), recovered := false }] /\ w.grownBy w' (some rb)
theorem giveUp_at (rb : Nat) (T : TypeId) (s : List UInt8) (l why a : Int) (X : List Value) (w : World) (hr : Rd w rb T s l why X) :
  Calls Tryz.prog 99 #[.pointer (some ⟨rb, 0, none⟩), .int .i64 a] w fun e w' => FailsAt w rb l a e w' := by
 have c1 := hr.c1
 go_enter Tryz.func99, Tryz.ntmps99
 go_wp2
 exact ⟨rfl, rfl, grown_refl _ _⟩
theorem fail_at (rb : Nat) (T : TypeId) (s : List UInt8) (l why : Int) (X : List Value) (w : World) (hr : Rd w rb T s l why X) :
  Calls Tryz.prog 59 #[.pointer (some ⟨rb, 0, none⟩)] w fun e w' => FailsAt w rb l why e w' := by
 have c1 := hr.c1
 have c2 := hr.c2
 go_enter Tryz.func59, Tryz.ntmps59
 go_wp2_with fail
 refine (giveUp_at rb T s l why why X w hr).mono ?_
 rintro e w' ⟨rfl, hg⟩
 go_wp2
 exact ⟨rfl, rfl, hg⟩
theorem take_at (rb : Nat) (T : TypeId) (s p : List UInt8) (l why : Int) (X : List Value) (w : World) (hr : Rd w rb T s l why X) (hs : s.length <= 3000) (hp : p.length <= 3000) :
  Calls Tryz.prog 101 #[.pointer (some ⟨rb, 0, none⟩), .string (bs p)] w fun e w' =>
   (∃ r, Code.cut p s = some r /\ e = .returned (.tuple #[]) /\ Rd w' rb T r l why X /\ w.grownBy w' (some rb)) \/ (Code.cut p s = none /\ FailsAt w rb l why e w') := by
 cases hc : Code.cut p s with
 | none =>
  have HC := hide hc
  clear hc
  go_enter Tryz.func101, Tryz.ntmps101
  go_wp2_with fail
  refine (skip_any rb T s p l why X w hr hs hp).mono ?_
  rw [HC.out]
  rintro e w' ⟨rfl, hr', hg⟩
  go_wp2_with fail
  refine (fail_at rb T _ l why X w' hr').mono ?_
  rintro e w'' ⟨rfl, hg'⟩
  go_wp2
  exact ⟨rfl, Or.inr ⟨by simp, rfl, grown_trans hg hg'⟩⟩
 | some r =>
  have HC := hide hc
  clear hc
  go_enter Tryz.func101, Tryz.ntmps101
  go_wp2_with fail
  refine (skip_any rb T s p l why X w hr hs hp).mono ?_
  rw [HC.out]
  rintro e w' ⟨rfl, hr', hg⟩
  go_wp2
  go_end0
  exact Or.inl ⟨r, rfl, rfl, hr', hg⟩
theorem number_noAt (rb : Nat) (T : TypeId) (s : List UInt8) (l why : Int) (X : List Value) (w : World) (hr : Rd w rb T s l why X) (hs : s.length <= 3000) (hb : Code.badDigits (Code.run 48 57 s)) :
  Calls Tryz.prog 158 #[.pointer (some ⟨rb, 0, none⟩)] w fun e w' => FailsAt w rb l why e w' := by
 have hrun := run_any rb T s 48 57 l why X w hr hs
 have hlen := Code.run_length 48 57 s
 generalize Code.run 48 57 s = d at *
 generalize Code.rest 48 57 s = t at *
 have e1 := bs_size d
 have hz : (((bs d).toList == []) = true /\ True /\ True) \/ (((bs d).toList == []) = false /\ 10 < (d.length : Int) /\ True) \/
   (∃ b4 : 0 < (bs d).size, ((bs d).toList == []) = false /\ ¬ 10 < (d.length : Int) /\ (((bs d)[0]'b4).toNat : Int) = 48 /\ ((bs d).toList == [48]) = false) := by
  by_cases b1 : d = []
  ·exact Or.inl ⟨toList_yes (by rw [bl_bs]; exact b1), trivial, trivial⟩
  ·have q1 : ((bs d).toList == []) = false := toList_no (by rw [bl_bs]; exact b1)
   by_cases b2 : 10 < d.length
   ·exact Or.inr (Or.inl ⟨q1, by omega, trivial⟩)
   ·rcases hb with h | h | ⟨h, h'⟩
    ·exact absurd h b1
    ·exact absurd h b2
    ·have b3 : 0 < d.length := List.length_pos_iff.2 b1
     refine Or.inr (Or.inr ⟨by omega, q1, by omega, ?_, toList_no (by rw [bl_bs]; exact h')⟩)
     rw [bs_get d 0 b3]
     rw [List.head?_eq_getElem?, List.getElem?_eq_getElem b3] at h
     exact congrArg (fun c : UInt8 => (c.toNat : Int)) (Option.some.inj h)
 clear hb
 rcases hz with ⟨q1, q2, q3⟩ | ⟨q1, q2, q3⟩ | ⟨b4, q1, q2, q3, q4⟩
 all_goals
  go_enter Tryz.func158, Tryz.ntmps158
  go_wp2_with fail
  refine hrun.mono ?_
  rintro e w' ⟨rfl, hr', hg⟩
  go_wp2_with fail
  refine (fail_at rb T _ l why X w' hr').mono ?_
  rintro e w'' ⟨rfl, hg'⟩
  go_wp2
  exact ⟨rfl, rfl, grown_trans hg hg'⟩
theorem number_at (rb : Nat) (T : TypeId) (s : List UInt8) (l why : Int) (X : List Value) (w : World) (hr : Rd w rb T s l why X) (hs : s.length <= 3000) :
  Calls Tryz.prog 158 #[.pointer (some ⟨rb, 0, none⟩)] w fun e w' =>
   (∃ n t, Code.number s = some (n, t) /\ e = .returned (.int .i64 (n : Nat)) /\ Rd w' rb T t l why X /\ w.grownBy w' (some rb)) \/ (Code.number s = none /\ FailsAt w rb l why e w') := by
 by_cases hb : Code.badDigits (Code.run 48 57 s)
 ·refine (number_noAt rb T s l why X w hr hs hb).mono ?_
  intro e w' h
  exact Or.inr ⟨by simp [Code.number, hb], h⟩
 ·refine (number_yes rb T s l why X w hr hs hb).mono ?_
  rintro e w' ⟨rfl, h, hg⟩
  exact Or.inl ⟨_, _, by simp only [Code.number, if_neg hb], rfl, h, hg⟩
theorem signed_at (rb : Nat) (T : TypeId) (s : List UInt8) (l why : Int) (X : List Value) (w : World) (hr : Rd w rb T s l why X) (hs : s.length <= 3000) :
  Calls Tryz.prog 193 #[.pointer (some ⟨rb, 0, none⟩)] w fun e w' =>
   (∃ n t, Code.signed s = some (n, t) /\ e = .returned (.int .i32 n) /\ Rd w' rb T t l why X /\ w.grownBy w' (some rb)) \/ (Code.signed s = none /\ FailsAt w rb l why e w') := by
 cases hc : Code.cut [45] s with
 | none =>
  have HC := hide hc
  have HS : Hid (Code.signed s = (Code.number s).bind (Code.signedOf false)) := by simp [Hid, Code.signed, hc]
  clear hc
  go_enter Tryz.func193, Tryz.ntmps193
  go_wp2_with fail
  refine (skip_any rb T s [45] l why X w hr hs (by simp)).mono ?_
  rw [HC.out]
  rintro e w1 ⟨rfl, hr1, hg1⟩
  go_wp2_with fail
  refine (number_at rb T s l why X w1 hr1 hs).mono ?_
  rintro e w2 (⟨n, t, hn, rfl, hr2, hg2⟩ | ⟨hn, rfl, hg2⟩)
  ·have hb := (Code.number_some hn).1
   have HN := hide hn
   clear hn
   by_cases hbig : (2147483647 : Int) < (n : Int)
   ·have HB : Hid (Code.signed s = none) := by rw [HS.out, HN.out]; exact Code.signedOf_plus_big (by omega)
    go_wp2_with fail
    refine (fail_at rb T _ l why X w2 hr2).mono ?_
    rintro e w3 ⟨rfl, hg3⟩
    go_wp2
    exact ⟨rfl, Or.inr ⟨HB.out, rfl, grown_trans hg1 (grown_trans hg2 hg3)⟩⟩
   ·have HB : Hid (Code.signed s = some ((n : Int), t)) := by rw [HS.out, HN.out]; exact Code.signedOf_plus (by omega)
    go_wp2
    go_ret
    exact Or.inl ⟨n, t, HB.out, rfl, hr2, grown_trans hg1 hg2⟩
  ·go_wp2
   exact ⟨rfl, Or.inr ⟨by rw [HS.out, hn]; rfl, rfl, grown_trans hg1 hg2⟩⟩
 | some r =>
  have HC := hide hc
  have HS : Hid (Code.signed s = (Code.number r).bind (Code.signedOf true)) := by simp [Hid, Code.signed, hc]
  have hrl : r.length <= 3000 := by rw [Code.cut_some hc] at hs; simp at hs; omega
  clear hc
  go_enter Tryz.func193, Tryz.ntmps193
  go_wp2_with fail
  refine (skip_any rb T s [45] l why X w hr hs (by simp)).mono ?_
  rw [HC.out]
  rintro e w1 ⟨rfl, hr1, hg1⟩
  go_wp2_with fail
  refine (number_at rb T r l why X w1 hr1 hrl).mono ?_
  rintro e w2 (⟨n, t, hn, rfl, hr2, hg2⟩ | ⟨hn, rfl, hg2⟩)
  ·have hb := (Code.number_some hn).1
   have HN := hide hn
   clear hn
   by_cases hz : n = 0
   ·have HB : Hid (Code.signed s = none) := by rw [HS.out, HN.out]; exact Code.signedOf_zero hz
    have hz' : ((n : Int) == 0) = true := by simp [hz]
    clear hz
    go_wp2_with fail
    refine (fail_at rb T _ l why X w2 hr2).mono ?_
    rintro e w3 ⟨rfl, hg3⟩
    go_wp2
    exact ⟨rfl, Or.inr ⟨HB.out, rfl, grown_trans hg1 (grown_trans hg2 hg3)⟩⟩
   ·have hz' : ((n : Int) == 0) = false := beq_eq_false_iff_ne.2 (by omega)
    by_cases hbig : 2147483648 < n
    ·have HB : Hid (Code.signed s = none) := by rw [HS.out, HN.out]; exact Code.signedOf_minus_big hbig
     have hq : -(n : Int) < -2147483648 := by omega
     clear hz hbig
     go_wp2_with fail
     refine (fail_at rb T _ l why X w2 hr2).mono ?_
     rintro e w3 ⟨rfl, hg3⟩
     go_wp2
     exact ⟨rfl, Or.inr ⟨HB.out, rfl, grown_trans hg1 (grown_trans hg2 hg3)⟩⟩
    ·have HB : Hid (Code.signed s = some (-(n : Int), t)) := by rw [HS.out, HN.out]; exact Code.signedOf_minus (by omega) (by omega)
     have hq : ¬ -(n : Int) < -2147483648 := by omega
     have hq' : ¬ 2147483647 < -(n : Int) := by omega
     clear hz
     go_wp2
     go_ret
     exact Or.inl ⟨_, t, HB.out, rfl, hr2, grown_trans hg1 hg2⟩
  ·go_wp2
   exact ⟨rfl, Or.inr ⟨by rw [HS.out, hn]; rfl, rfl, grown_trans hg1 hg2⟩⟩
end Go.Proofs.YtedkjanogjglkaaGreatDoor
namespace Go.Proofs.YtedkjanogjglkaaGreatDoor.Code
def idle (s : List UInt8) : Prop := s = [] \/ s.head? = some 59
instance (s : List UInt8) : Decidable (idle s) := by unfold idle; infer_instance
def headOf (s : List UInt8) : List UInt8 := s.takeWhile (· != 10)
def nextOf (s : List UInt8) : List UInt8 := (s.dropWhile (· != 10)).tail
inductive RulesS : Nat -> List UInt8 -> Except (Nat × Int) (List CRule) -> Prop
 | done {n : Nat} : RulesS n [] (.ok [])
 | open_ {n : Nat} {s : List UInt8} : s ≠ [] -> 10 ∉ s -> RulesS n s (.error (n, 6))
 | idle {n : Nat} {s : List UInt8} {o : Except (Nat × Int) (List CRule)} : 10 ∈ s -> idle (headOf s) -> RulesS (n + 1) (nextOf s) o -> RulesS n s o
 | bad {n : Nat} {s : List UInt8} {e : Int} : 10 ∈ s -> ¬ Code.idle (headOf s) -> lineS (headOf s) = .error e -> RulesS n s (.error (n, e))
 | more {n : Nat} {s : List UInt8} {nd rs : RTree} {ns : List Nm} {o : Except (Nat × Int) (List CRule)} : 10 ∈ s -> ¬ Code.idle (headOf s) -> lineS (headOf s) = .ok (nd, rs, ns) -> RulesS (n + 1) (nextOf s) o ->
   RulesS n s (o.map fun l => ⟨nd, rs, ns⟩ :: l)
theorem nextOf_length : ∀ {s : List UInt8}, 10 ∈ s -> (nextOf s).length < s.length /\ s = headOf s ++ 10 :: nextOf s
 | [], h => by cases h
 | a :: s, h => by
  by_cases ha : a = 10
  ·subst ha
   simp [nextOf, headOf]
  ·have hm : 10 ∈ s := by
    rcases List.mem_cons.1 h with h | h
    ·exact absurd h.symm ha
    ·exact h
   have hb : (a != 10) = true := by simpa using ha
   obtain ⟨h1, h2⟩ := nextOf_length hm
   have e1 : nextOf (a :: s) = nextOf s := by unfold nextOf; rw [List.dropWhile_cons, if_pos hb]
   have e2 : headOf (a :: s) = a :: headOf s := by unfold headOf; rw [List.takeWhile_cons, if_pos hb]
   rw [e1, e2]
   refine ⟨by simp; omega, ?_⟩
   rw [List.cons_append, <- h2]
theorem rulesS_all : ∀ (k : Nat) (s : List UInt8) (n : Nat), s.length <= k -> ∃ o, RulesS n s o
 | k, [], n, _ => ⟨_, .done⟩
 | 0, _ :: _, n, h => by simp at h
 | k + 1, a :: s, n, h => by
  by_cases h10 : 10 ∈ (a :: s)
  ·have hl := (nextOf_length h10).1
   obtain ⟨o, ho⟩ := rulesS_all k (nextOf (a :: s)) (n + 1) (by omega)
   by_cases hi : idle (headOf (a :: s))
   ·exact ⟨o, .idle h10 hi ho⟩
   ·cases hL : lineS (headOf (a :: s)) with
    | error e => exact ⟨_, .bad h10 hi hL⟩
    | ok p => exact ⟨_, .more (nd := p.1) (rs := p.2.1) (ns := p.2.2) h10 hi hL ho⟩
  ·exact ⟨_, .open_ (by simp) h10⟩
end Go.Proofs.YtedkjanogjglkaaGreatDoor.Code
namespace Go.Proofs.YtedkjanogjglkaaGreatDoor
open Go.RowKit
open Go.Proofs.YtedkjanogjglkaaGreatDoor.Code (RTree Nm RSt Prs)
structure Kin (w w' : World) (rb B : Nat) : Prop where
 os : w'.os = w.os
 tape : w'.tape = w.tape
 output : w'.output = w.output
 size : w.heap.size <= w'.heap.size
 block : ∀ k o, w.heap[k]? = some o -> k ≠ rb -> (k < B \/ ∀ C z, o ≠ .cells C 315 z) -> w'.heap[k]? = some o
theorem Kin.trans {a b c : World} {rb B : Nat} (h : Kin a b rb B) (k : Kin b c rb B) : Kin a c rb B :=
 ⟨k.os.trans h.os, k.tape.trans h.tape, k.output.trans h.output, Nat.le_trans h.size k.size, fun i o hi hn ht => k.block i o (h.block i o hi hn ht) hn ht⟩
theorem Kin.grown {w w' : World} {rb B : Nat} (h : w.grownBy w' (some rb)) : Kin w w' rb B :=
 ⟨h.os, h.tape, h.output, h.size, fun k _ hk hn _ => (h.block k (lt_of_block hk) (by simpa using hn)).trans hk⟩
theorem Kin.below {w w' : World} {rb B : Nat} (h : Below w.heap.size w w') : Kin w w' rb B :=
 ⟨h.os, h.tape, h.output, h.size, fun k _ hk _ _ => (h.block k (lt_of_block hk)).trans hk⟩
theorem Kin.drewN {w w' : World} {rb B : Nat} (h : Kin w w' rb B) (n : Nat) : Kin w (w'.drewN n) rb B := ⟨h.os, h.tape, h.output, h.size, h.block⟩
theorem Kin.alloc {w w' : World} {rb B : Nat} (h : Kin w w' rb B) (o : Obj) : Kin w (w'.alloc o) rb B :=
 ⟨h.os, h.tape, h.output, by have := h.size; simp; omega, fun k p hk hn ht => stay_alloc (h.block k p hk hn ht)⟩
theorem Kin.set_new {w w' : World} {rb B : Nat} (h : Kin w w' rb B) {b : Nat} (hb : w.heap.size <= b) (o : Nat) (v : Value) : Kin w (w'.setCell ⟨b, o, none⟩ v) rb B :=
 ⟨h.os, h.tape, h.output, by rw [size_set]; exact h.size, fun k p hk hn ht => stay_set (h.block k p hk hn ht) (by have := lt_of_block hk; show k ≠ b; omega)⟩
theorem Kin.tab {w w' : World} {rb B : Nat} (h : Kin w w' rb B) (hrb : 0 < rb) (hB : 0 < B) (ht : Tab w) : Tab w' := by
 intro j v hv
 have h1 := ht j v hv
 cases hh : w.heap[0]? with
 | none => simp [World.cell?, hh] at h1
 | some o =>
  have h2 := h.block 0 o hh (by omega) (Or.inl hB)
  simpa [World.cell?, h2, hh] using h1
def nmCells (l : List Nm) : List Value := l.flatMap fun p => [.string (bs p.1), .bool p.2]
theorem nmCells_snoc (l : List Nm) (p : Nm) : nmCells (l ++ [p]) = nmCells l ++ [.string (bs p.1), .bool p.2] := by simp [nmCells]
theorem nmCells_get (l : List Nm) (k : Nat) (h : k < l.length) : (nmCells l)[k * 2]? = some (.string (bs (l[k]).1)) /\ (nmCells l)[k * 2 + 1]? = some (.bool (l[k]).2) := by
 induction l generalizing k with
 | nil => simp at h
 | cons p l ih =>
  cases k with
  | zero => simp [nmCells]
  | succ k =>
   obtain ⟨h1, h2⟩ := ih k (by simpa using h)
   simp only [nmCells, List.flatMap_cons, List.getElem_cons_succ] at *
   rw [show (k + 1) * 2 = k * 2 + 2 by omega, show k * 2 + 2 + 1 = k * 2 + 1 + 2 by omega]
   exact ⟨by simpa using h1, by simpa using h2⟩
def Rdr (w : World) (rb B : Nat) (s : List UInt8) (l : Int) (st : RSt) : Prop :=
 ∃ nv, Rd w rb 115 s l 6 [nv, .bool st.unbound] /\ w.ownsRow B 315 2 nv st.names.length (nmCells st.names)
theorem Rdr.grown {w w' : World} {rb B : Nat} {s : List UInt8} {l : Int} {st : RSt} {nv : Value} (hr : Rd w rb 115 s l 6 [nv, .bool st.unbound]) (ho : w.ownsRow B 315 2 nv st.names.length (nmCells st.names)) {s' : List UInt8}
  (hr' : Rd w' rb 115 s' l 6 [nv, .bool st.unbound]) (hg : w.grownBy w' (some rb)) : Rdr w' rb B s' l st := ⟨nv, hr', own_kept hr hg ho (by decide)⟩
def FailsK (w : World) (rb B : Nat) (l why : Int) (e : Ending) (w' : World) : Prop :=
 e = .panicked [{ v := .iface 61 (.agg #[.int .i64 why, .int .i64 l]), recovered := false }] /\ Kin w w' rb B
theorem FailsAt.kin {w w' : World} {rb : Nat} {B : Nat} {l why : Int} {e : Ending} (h : FailsAt w rb l why e w') : FailsK w rb B l why e w' := ⟨h.1, Kin.grown h.2⟩
mutual
def RepT (w : World) (base : Nat) (res : Bool) (L : Int -> Nm -> Prop) : Value -> RTree -> Prop
 | v, .name x => ∃ i : Int, v = .iface 225 (.agg #[.int .i64 i]) /\ L i (x, false)
 | v, .hash x => ∃ i : Int, v = .iface 316 (.agg #[.int .i64 i]) /\ L i (x, true)
 | v, .num c => v = .iface 313 (.agg #[.int .i32 c]) /\ -2147483648 <= c /\ c <= 2147483647
 | v, .op k kids => ∃ sv vs, v = .iface (if res = true then 271 else 119) (.agg #[.int .i64 (k : Nat), sv]) /\ k < 13 /\ vs.length = Code.opOf k /\ w.ownsRow base (if res = true then 121 else 262) 1 sv vs.length vs /\ RepTs w base res L vs kids
 | v, .fold k kids => ∃ sv vs, v = .iface 266 (.agg #[.int .i64 (k : Nat), sv]) /\ k < 13 /\ vs.length = Code.opOf k /\ w.ownsRow base 121 1 sv vs.length vs /\ RepTs w base res L vs kids
def RepTs (w : World) (base : Nat) (res : Bool) (L : Int -> Nm -> Prop) : List Value -> List RTree -> Prop
 | [], [] => True
 | v :: vs, t :: ts => RepT w base res L v t /\ RepTs w base res L vs ts
 | _, _ => False
end
def KeepsT (w w' : World) (base : Nat) : Prop := ∀ (b : Nat) (C : Array Value) (T : TypeId) (z : Nat × Nat), w.heap[b]? = some (.cells C T z) -> T = 262 \/ T = 121 -> base <= b -> w'.heap[b]? = some (.cells C T z)
theorem KeepsT.own {w w' : World} {base : Nat} (h : KeepsT w w' base) {e size n : Nat} {v : Value} {xs : List Value} (he : e = 262 \/ e = 121) (ho : w.ownsRow base e size v n xs) : w'.ownsRow base e size v n xs := by
 refine ⟨ho.1, ?_⟩
 rcases ho.2 with h0 | ⟨g, cap, cur, hv, hbg, hgg, r⟩
 ·exact Or.inl h0
 ·exact Or.inr ⟨g, cap, cur, hv, hbg, h g _ _ _ hgg he hbg, r⟩
mutual
theorem RepT.kept {w w' : World} {base base' : Nat} {res : Bool} {L L' : Int -> Nm -> Prop} (hk : KeepsT w w' base) (hb : base' <= base) (hL : ∀ i p, L i p -> L' i p) : ∀ (t : RTree) (v : Value), RepT w base res L v t -> RepT w' base' res L' v t
 | .name x, v, h => by
  obtain ⟨i, h1, h2⟩ := h
  exact ⟨i, h1, hL _ _ h2⟩
 | .hash x, v, h => by
  obtain ⟨i, h1, h2⟩ := h
  exact ⟨i, h1, hL _ _ h2⟩
 | .num c, v, h => h
 | .op k kids, v, h => by
  obtain ⟨sv, vs, h1, h2, h3, h4, h5⟩ := h
  refine ⟨sv, vs, h1, h2, h3, own_base (hk.own ?_ h4) hb, RepTs.kept hk hb hL kids vs h5⟩
  cases res
  ·exact Or.inl rfl
  ·exact Or.inr rfl
 | .fold k kids, v, h => by
  obtain ⟨sv, vs, h1, h2, h3, h4, h5⟩ := h
  exact ⟨sv, vs, h1, h2, h3, own_base (hk.own (Or.inr rfl) h4) hb, RepTs.kept hk hb hL kids vs h5⟩
theorem RepTs.kept {w w' : World} {base base' : Nat} {res : Bool} {L L' : Int -> Nm -> Prop} (hk : KeepsT w w' base) (hb : base' <= base) (hL : ∀ i p, L i p -> L' i p) : ∀ (ts : List RTree) (vs : List Value), RepTs w base res L vs ts -> RepTs w' base' res L' vs ts
 | [], [], _ => trivial
 | t :: ts, v :: vs, h => ⟨RepT.kept hk hb hL t v h.1, RepTs.kept hk hb hL ts vs h.2⟩
 | [], _ :: _, h => h.elim
 | _ :: _, [], h => h.elim
end
theorem RepTs.length {w : World} {base : Nat} {res : Bool} {L : Int -> Nm -> Prop} : ∀ {vs : List Value} {ts : List RTree}, RepTs w base res L vs ts -> vs.length = ts.length
 | [], [], _ => rfl
 | _ :: _, _ :: _, h => by simp [RepTs.length h.2]
 | [], _ :: _, h => h.elim
 | _ :: _, [], h => h.elim
theorem RepTs.snoc {w : World} {base : Nat} {res : Bool} {L : Int -> Nm -> Prop} : ∀ {vs : List Value} {ts : List RTree} {v : Value} {t : RTree}, RepTs w base res L vs ts -> RepT w base res L v t -> RepTs w base res L (vs ++ [v]) (ts ++ [t])
 | [], [], _, _, _, h => ⟨h, trivial⟩
 | _ :: _, _ :: _, _, _, h, k => ⟨h.1, RepTs.snoc h.2 k⟩
 | [], _ :: _, _, _, h, _ => h.elim
 | _ :: _, [], _, _, h, _ => h.elim
theorem Kin.keeps {w w' : World} {rb B base : Nat} (h : Kin w w' rb B) {s : List UInt8} {l : Int} {X : List Value} (hb : Rd w rb 115 s l 6 X) : KeepsT w w' base := by
 intro b C T z hc hT _
 refine h.block b _ hc ?_ (Or.inr ?_)
 ·rintro rfl
  unfold Rd at hb
  rw [hb] at hc
  simp only [Option.some.injEq, Obj.cells.injEq] at hc
  rcases hT with rfl | rfl
  ·exact absurd hc.2.1 (by decide)
  ·exact absurd hc.2.1 (by decide)
 ·intro C' z' hh
  simp only [Obj.cells.injEq] at hh
  rcases hT with rfl | rfl
  ·exact absurd hh.2.1 (by decide)
  ·exact absurd hh.2.1 (by decide)
theorem keeps_set {w : World} {base b o : Nat} {v : Value} (h : b < base) : KeepsT w (w.setCell ⟨b, o, none⟩ v) base :=
 fun k _ _ _ hc _ hk => stay_set hc (by show k ≠ b; omega)
theorem keeps_refl (w : World) (base : Nat) : KeepsT w w base := fun _ _ _ _ hc _ _ => hc
def LP (st : RSt) (i : Int) (p : Nm) : Prop := ∃ k : Nat, i = k /\ st.names[k]? = some p
def LR (st : RSt) (i : Int) (p : Nm) : Prop := i = match Code.slotOf st.names p with
 | some k => (k : Int)
 | none => -1
def TreePost (o : Option (RTree × RSt × List UInt8)) (w : World) (rb B : Nat) (l : Int) (res : Bool) (L : RSt -> Int -> Nm -> Prop) (e : Ending) (w' : World) : Prop :=
 (∃ t st r v, o = some (t, st, r) /\ e = .returned v /\ Rdr w' rb B r l st /\ RepT w' w.heap.size res (L st) v t /\ Kin w w' rb B) \/ (o = none /\ FailsK w rb B l 6 e w')
def operK (f : Prs) (st : RSt) (s : List UInt8) : Option (Nat × List RTree × RSt × List UInt8) :=
 (Code.cut [40] s).bind fun s => (Code.opNamed (Code.word s)).bind fun k => (Code.kidsS f (Code.opOf k) st (Code.behind s)).bind fun p => (Code.cut [41] p.2.2).map fun r => (k, p.1, p.2.1, r)
theorem operS_eq (f : Prs) (mk : Nat -> List RTree -> RTree) (st : RSt) (s : List UInt8) : Code.operS f mk st s = (operK f st s).map fun p => (mk p.1 p.2.1, p.2.2) := by
 unfold Code.operS operK
 cases Code.cut [40] s with
 | none => rfl
 | some r =>
  simp only [Option.bind_some]
  cases Code.opNamed (Code.word r) with
  | none => rfl
  | some k =>
   simp only [Option.bind_some]
   cases Code.kidsS f (Code.opOf k) st (Code.behind r) with
   | none => rfl
   | some p =>
    simp only [Option.bind_some]
    cases Code.cut [41] p.2.2 <;> rfl
def OperPost (o : Option (Nat × List RTree × RSt × List UInt8)) (w : World) (rb B : Nat) (l : Int) (res : Bool) (L : RSt -> Int -> Nm -> Prop) (e : Ending) (w' : World) : Prop :=
 (∃ k ts st r sv vs, o = some (k, ts, st, r) /\ k < 13 /\ e = .returned (.tuple #[.int .i64 (k : Nat), sv]) /\ Rdr w' rb B r l st /\ vs.length = Code.opOf k /\ w'.ownsRow w.heap.size (if res = true then 121 else 262) 1 sv vs.length vs /\ RepTs w' w.heap.size res (L st) vs ts /\ Kin w w' rb B) \/ (o = none /\ FailsK w rb B l 6 e w')
def Reads (K : Nat) (d : Int) (f : Prs) (res : Bool) (L : RSt -> Int -> Nm -> Prop) : Prop :=
 ∀ (rb B : Nat) (s : List UInt8) (l : Int) (st : RSt) (w : World), Rdr w rb B s l st -> s.length <= 3000 -> st.names.length + s.length <= 6000 -> Tab w -> 0 < rb -> 0 < B -> B <= w.heap.size ->
  Calls Tryz.prog K #[.pointer (some ⟨rb, 0, none⟩), .int .i64 d] w fun e w' => TreePost (f st s) w rb B l res L e w'
theorem take_rdr (rb B : Nat) (s p : List UInt8) (l : Int) (st : RSt) (w : World) (hr : Rdr w rb B s l st) (hs : s.length <= 3000) (hp : p.length <= 3000) :
  Calls Tryz.prog 101 #[.pointer (some ⟨rb, 0, none⟩), .string (bs p)] w fun e w' =>
   (∃ r, Code.cut p s = some r /\ e = .returned (.tuple #[]) /\ Rdr w' rb B r l st /\ w.grownBy w' (some rb)) \/ (Code.cut p s = none /\ FailsK w rb B l 6 e w') := by
 obtain ⟨nv, h1, h2⟩ := hr
 refine (take_at rb _ s p l 6 _ w h1 hs hp).mono ?_
 rintro e w' (⟨r, h3, h4, h5, h6⟩ | ⟨h3, h4⟩)
 ·exact Or.inl ⟨r, h3, h4, Rdr.grown h1 h2 h5 h6, h6⟩
 ·exact Or.inr ⟨h3, h4.kin⟩
theorem skip_rdr (rb B : Nat) (s p : List UInt8) (l : Int) (st : RSt) (w : World) (hr : Rdr w rb B s l st) (hs : s.length <= 3000) (hp : p.length <= 3000) :
  Calls Tryz.prog 148 #[.pointer (some ⟨rb, 0, none⟩), .string (bs p)] w fun e w' =>
   e = .returned (.bool (Code.cut p s).isSome) /\ Rdr w' rb B ((Code.cut p s).getD s) l st /\ w.grownBy w' (some rb) := by
 obtain ⟨nv, h1, h2⟩ := hr
 refine (skip_any rb _ s p l 6 _ w h1 hs hp).mono ?_
 rintro e w' ⟨h3, h4, h5⟩
 exact ⟨h3, Rdr.grown h1 h2 h4 h5, h5⟩
theorem letters_rdr (rb B : Nat) (s : List UInt8) (l : Int) (st : RSt) (w : World) (hr : Rdr w rb B s l st) (hs : s.length <= 3000) :
  Calls Tryz.prog 187 #[.pointer (some ⟨rb, 0, none⟩)] w fun e w' =>
   e = .returned (.string (bs (Code.word s))) /\ Rdr w' rb B (Code.behind s) l st /\ w.grownBy w' (some rb) := by
 obtain ⟨nv, h1, h2⟩ := hr
 refine (letters_any rb _ s l 6 _ w h1 hs).mono ?_
 rintro e w' ⟨h3, h4, h5⟩
 exact ⟨h3, Rdr.grown h1 h2 h4 h5, h5⟩
theorem fail_rdr (rb B : Nat) (s : List UInt8) (l : Int) (st : RSt) (w : World) (hr : Rdr w rb B s l st) :
  Calls Tryz.prog 59 #[.pointer (some ⟨rb, 0, none⟩)] w fun e w' => FailsK w rb B l 6 e w' := by
 obtain ⟨nv, h1, h2⟩ := hr
 refine (fail_at rb _ s l 6 _ w h1).mono ?_
 intro e w' h
 exact h.kin
theorem Rdr.below {w w' : World} {rb B : Nat} {s : List UInt8} {l : Int} {st : RSt} (h : Rdr w rb B s l st) (hb : Below w.heap.size w w') : Rdr w' rb B s l st := by
 obtain ⟨nv, h1, h2⟩ := h
 exact ⟨nv, (hb.block rb (lt_of_block h1)).trans h1, own_below h2 hb⟩
theorem Rdr.rd {w : World} {rb B : Nat} {s : List UInt8} {l : Int} {st : RSt} (h : Rdr w rb B s l st) : ∃ X, Rd w rb 115 s l 6 X := by
 obtain ⟨nv, h1, _⟩ := h
 exact ⟨_, h1⟩
theorem Rdr.set {w : World} {rb B : Nat} {s : List UInt8} {l : Int} {st : RSt} (h : Rdr w rb B s l st) {g o : Nat} {v : Value} {C : Array Value} {T : TypeId} {z : Nat × Nat} (hg : w.heap[g]? = some (.cells C T z)) (h1 : T ≠ 115) (h2 : T ≠ 315) : Rdr (w.setCell ⟨g, o, none⟩ v) rb B s l st := by
 obtain ⟨nv, h3, h4⟩ := h
 refine ⟨nv, stay_set h3 ?_, ?_⟩
 ·rintro rfl
  unfold Rd at h3
  rw [hg] at h3
  simp only [Option.some.injEq, Obj.cells.injEq] at h3
  exact h1 h3.2.1
 ·refine h4.kept (grown_set _ _ _ _) (Or.inr ?_)
  exact fun e => own_ne h4 hg h2 e.symm
theorem RepT.shape {w : World} {base : Nat} {res : Bool} {L : Int -> Nm -> Prop} {v : Value} {t : RTree} (h : RepT w base res L v t) : ∃ T x, v = .iface T x := by
 cases t with
 | name x => obtain ⟨i, rfl, _⟩ := h; exact ⟨_, _, rfl⟩
 | hash x => obtain ⟨i, rfl, _⟩ := h; exact ⟨_, _, rfl⟩
 | num c => obtain ⟨rfl, _⟩ := h; exact ⟨_, _, rfl⟩
 | op k kids => obtain ⟨sv, vs, rfl, _⟩ := h; exact ⟨_, _, rfl⟩
 | fold k kids => obtain ⟨sv, vs, rfl, _⟩ := h; exact ⟨_, _, rfl⟩
def kidRow (w : World) (g : Nat) (T : TypeId) (vs : List Value) (n : Nat) : Prop := w.heap[g]? = some (.cells (vs ++ List.replicate n Value.nilIface).toArray T)
theorem kidRow.set {w : World} {g : Nat} {T : TypeId} {vs : List Value} {n : Nat} (h : kidRow w g T vs (n + 1)) (v : Value) : kidRow (w.setCell ⟨g, vs.length, none⟩ v) g T (vs ++ [v]) n := by
 unfold kidRow
 rw [set_block h]
 congr 1
 simp only [List.setIfInBounds_toArray]
 congr 1
 rw [List.set_append_right _ _ (Nat.le_refl _), Nat.sub_self, List.replicate_succ, List.set_cons_zero]
 simp
theorem kidRow.own {w : World} {g base : Nat} {T : TypeId} {vs : List Value} {n : Nat} (h : kidRow w g T vs 0) (hb : base <= g) (hn : vs.length = n) (hm : n <= 100) : w.ownsRow base T 1 (.slice (some ⟨g, 0, none⟩) n n) vs.length vs := by
 subst hn
 unfold kidRow at h
 simp only [List.replicate_zero, List.append_nil] at h
 exact ⟨by simp, Or.inr ⟨g, vs.length, vs.toArray, rfl, hb, h, Nat.le_refl _, Nat.le_trans hm (by decide), by simp, by simp⟩⟩
end Go.Proofs.YtedkjanogjglkaaGreatDoor
namespace Go.Proofs.YtedkjanogjglkaaGreatDoor.D
open Go.RowKit
namespace Ref
open Go.Proofs.YtedkjanogjglkaaGreatDoor.Ref
structure RBlk where
 Values : List RVal
 Last : List UInt8
 V : Int
 To : List Int
structure RFunc where
 Args : Int
 Blocks : List RBlk
end Ref
open Go.Proofs.YtedkjanogjglkaaGreatDoor (Code.Val Code.Blk Code.Fn)
namespace Ref
open Go.Proofs.YtedkjanogjglkaaGreatDoor.Ref
open Go.Proofs.YtedkjanogjglkaaGreatDoor.Code (textG lineG lastG linesG blockG blocksG textF WFT WFL WFB WFF PhisFirst nameOf ofText)
def mkBlk (vs : List RVal) (z : RLast) : RBlk := ⟨vs, z.Last, z.V, z.To⟩
theorem arity_name (k : Nat) (hk : k < 13) : arity (nameOf k) = Code.opOf k /\ 1 <= Code.opOf k /\ nameOf k ≠ sConst /\ nameOf k ≠ sArg /\ nameOf k ≠ sPhi /\ (32 : UInt8) ∉ nameOf k /\ (10 : UInt8) ∉ nameOf k := by
 match k, hk with
 | 0, _ | 1, _ | 2, _ | 3, _ | 4, _ | 5, _ | 6, _ | 7, _ | 8, _ | 9, _ | 10, _ | 11, _ | 12, _ => decide
/-! Values and lasts. -/
def toV (v : Code.Val) : RVal := match v.thing with
 | .phi of => ⟨v.num, sPhi, 0, of.map fun (x : Nat) => (x : Int)⟩
 | .arg n => ⟨v.num, sArg, n, []⟩
 | .const c => ⟨v.num, sConst, c, []⟩
 | .apply k of => ⟨v.num, nameOf k, 0, of.map fun (x : Nat) => (x : Int)⟩
def toL : Code.Last -> RLast
 | .ret v => ⟨sRet, v, []⟩
 | .jump t => ⟨sJump, 0, [(t : Int)]⟩
 | .ifs v x y => ⟨sIf, v, [(x : Int), (y : Int)]⟩
def toB (b : Code.Blk) : RBlk := mkBlk (b.values.map toV) (toL b.last)
def toF (f : Code.Fn) : RFunc := ⟨f.args, f.blocks.map toB⟩
end Ref
theorem cells_new (w : World) (C : List Value) (t : TypeId) : ∀ j u, C[j]? = some u -> (w.alloc (.cells C.toArray t)).cell? ((⟨w.heap.size, 0, none⟩ : Addr).add j) = some u := by
 intro j u hj
 rw [addr_add]
 exact blk_cell (heap_alloc_new w _) j u (by simpa using hj)
open Go.Proofs.YtedkjanogjglkaaGreatDoor.Ref (dec)
namespace Ref
open Go.Proofs.YtedkjanogjglkaaGreatDoor.Ref
end Ref
theorem cells_at (w : World) (C : List Value) (t : TypeId) (b : Nat) (h : b = w.heap.size) : ∀ j u, C[j]? = some u -> (w.alloc (.cells C.toArray t)).cell? ((⟨b, 0, none⟩ : Addr).add j) = some u := by
 subst h; exact cells_new w C t
end Go.Proofs.YtedkjanogjglkaaGreatDoor.D
