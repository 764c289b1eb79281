/-
  Walk: chiselref.Func.edges.
  Walk: chiselref.Func.reach: which blocks can be come to.
  Walk: chiselref.Func.reach, the walk itself.
  Walks: chiselref.Func.place and edges.
  Walks: chiselref.Func.reach of every block, and made.
  Walk: chiselref.Func.uses.
-/
import Derived.Test.YtedkjanogjglkaaDoorP10
import Derived.Deep.RegionHeld3

namespace Go.Proofs.YtedkjanogjglkaaDoor.D
open Go.RowKit

namespace Ref
open Go.Proofs.YtedkjanogjglkaaDoor.Ref
def edgesTo (to : Int) (i : Nat) : List Int → Nat → List (Int × Int)
  | [], _ => []
  | t :: r, k => if t = to then ((i : Int), (k : Int)) :: edgesTo to i r (k + 1) else edgesTo to i r (k + 1)

def edgesGo (to : Int) : List RBlk → Nat → List (Int × Int)
  | [], _ => []
  | b :: t, i => edgesTo to i b.To 0 ++ edgesGo to t (i + 1)

/-- The edges into a block, in their order. -/
def edges (f : RFunc) (to : Int) : List (Int × Int) := edgesGo to f.Blocks 0

theorem edgesTo_hit {to t : Int} {i k : Nat} {r : List Int} (h : t = to) : edgesTo to i (t :: r) k = ((i : Int), (k : Int)) :: edgesTo to i r (k + 1) := by simp only [edgesTo, if_pos h]

theorem edgesTo_miss {to t : Int} {i k : Nat} {r : List Int} (h : ¬ t = to) : edgesTo to i (t :: r) k = edgesTo to i r (k + 1) := by simp only [edgesTo, if_neg h]
end Ref

/-- The cells of edges. -/
def edgeCells (l : List (Int × Int)) : List Value := l.flatMap fun p => [.int .i64 p.1, .int .i64 p.2]

theorem edgeCells_snoc (l : List (Int × Int)) (a b : Int) : edgeCells (l ++ [(a, b)]) = edgeCells l ++ [.int .i64 a, .int .i64 b] := by simp [edgeCells]

theorem infoEdge : (Tryd.prog.info? 114).map (fun i => (i.zero, i.size, i.bytes)) = some (some (.agg #[.int .i64 0, .int .i64 0]), 2, 16) := by kernel_rfl

/-- Numbers in a row: the slice, and number by number what is there. -/
theorem ints_open {w : World} {base : Nat} {v : Value} {l : List Int} (h : w.ownsRow base 3 1 v l.length (ints l)) :
    ∃ p cap, v = .slice p l.length cap ∧ ∀ k (h : k < l.length), ∃ g, p = some ⟨g, 0, none⟩ ∧ w.cell? ⟨g, k, none⟩ = some (.int .i64 l[k]) := by
  obtain ⟨p, cap, hv⟩ := own_slice h
  refine ⟨p, cap, hv, fun k hk => ?_⟩
  obtain ⟨g, cap', hv', _, _, hc⟩ := row_open h (by omega)
  rw [hv] at hv'
  simp only [Value.slice.injEq] at hv'
  exact ⟨g, hv'.1, hc _ _ (ints_get l k hk)⟩

set_option maxRecDepth 100000 in
set_option maxHeartbeats 2000000 in
theorem edges_any (f : Ref.RFunc) (fb : Nat) (to : Int) (w : World) (hf : RepFunc w fb f) (hn : 0 < f.Blocks.length) (hb : f.Blocks.length ≤ 1000) (htl : ∀ j (h : j < f.Blocks.length), f.Blocks[j].To.length ≤ 2) :
    Calls Tryd.prog 51 #[.pointer (some ⟨fb, 0, none⟩), .int .i64 to] w fun e w' => ∃ v, e = .returned v ∧ w'.ownsRow w.heap.size 114 2 v (Ref.edges f to).length (edgeCells (Ref.edges f to)) ∧ Below w.heap.size w w' := by
  obtain ⟨i0, hi, hi0, hi1, hi2⟩ := info_parts infoEdge
  have HF := hide hf
  have HTL := hide htl
  clear hf htl
  go_enter Tryd.func51, Tryd.ntmps51
  go_wp2
  go_loopw [5, 6, 7] (fun v i _ wr => ∃ (j : Nat) (acc : List (Int × Int)), j ≤ f.Blocks.length ∧ i = .int .i64 j ∧ acc.length ≤ 2 * j ∧ wr.ownsRow w.heap.size 114 2 v acc.length (edgeCells acc) ∧ Below w.heap.size w wr ∧
      Hid (acc ++ Ref.edgesGo to (f.Blocks.drop j) j = Ref.edges f to)) (fun _ i _ _ => f.Blocks.length - (intOf i).toNat)
  case atStart => exact ⟨0, [], Nat.zero_le _, rfl, by simp, World.ownsRow_nil _ _ _ _, Below.refl _ _, by simp [Hid, Ref.edges]⟩
  case round =>
    obtain ⟨j, acc, hj, rfl, hac, hown, hbw, hsp⟩ := hrel
    obtain ⟨gb, cap, f0, f1, hblk⟩ := (HF.out.below hbw).open hn
    by_cases hlt : j < f.Blocks.length
    · have hl1 := HTL.out j hlt
      have hrest : f.Blocks.drop j = f.Blocks[j] :: f.Blocks.drop (j + 1) := List.drop_eq_getElem_cons hlt
      have HR : Hid (acc ++ (Ref.edgesTo to j f.Blocks[j].To 0 ++ Ref.edgesGo to (f.Blocks.drop (j + 1)) (j + 1)) = Ref.edges f to) := by
        have h := hsp.out
        rw [hrest] at h
        exact h
      have HOP : Hid (∀ ws, Below w.heap.size w ws → ∃ gb cap p tcap, ws.cell? ⟨fb, 1, none⟩ = some (.slice (some ⟨gb, 0, none⟩) f.Blocks.length cap) ∧ ws.cell? ⟨gb, j * 4 + 3, none⟩ = some (.slice p f.Blocks[j].To.length tcap) ∧
          ∀ k (h : k < f.Blocks[j].To.length), ∃ g, p = some ⟨g, 0, none⟩ ∧ ws.cell? ⟨g, k, none⟩ = some (.int .i64 f.Blocks[j].To[k])) := by
        intro ws hws
        obtain ⟨gb, cap, _, f1, hblk⟩ := (HF.out.below hws).open hn
        obtain ⟨vs, tov, _, _, _, b3, _, hto⟩ := hblk j hlt
        obtain ⟨p, tcap, hv, hval⟩ := ints_open hto
        rw [hv] at b3
        exact ⟨gb, cap, p, tcap, f1, b3, hval⟩
      clear hblk hsp hrest f0 f1
      generalize f.Blocks[j].To = tl at *
      obtain ⟨gb, cap, p, tcap, f1, b3, _⟩ := HOP.out wr hbw
      go_wp2
      go_loopw [5, 7] (fun v k ws => ∃ (m : Nat) (ac2 : List (Int × Int)), m ≤ tl.length ∧ k = .int .i64 m ∧ ac2.length ≤ 2 * j + m ∧ ws.ownsRow w.heap.size 114 2 v ac2.length (edgeCells ac2) ∧ Below w.heap.size w ws ∧
          Hid (ac2 ++ (Ref.edgesTo to j (tl.drop m) m ++ Ref.edgesGo to (f.Blocks.drop (j + 1)) (j + 1)) = Ref.edges f to)) (fun _ k _ => tl.length - (intOf k).toNat)
      case atStart => exact ⟨0, acc, Nat.zero_le _, rfl, by omega, hown, hbw, HR⟩
      case round =>
        obtain ⟨m, ac2, hm, rfl, hac2, hown2, hbs, hsp2⟩ := hrel
        rename_i ws _
        clear f1 b3
        obtain ⟨gb, cap, p, tcap, f1, b3, hval⟩ := HOP.out _ hbs
        by_cases hmt : m < tl.length
        · obtain ⟨g, rfl, c0⟩ := hval m hmt
          have hz := hbs.size
          have hdr : tl.drop m = tl[m] :: tl.drop (m + 1) := List.drop_eq_getElem_cons hmt
          by_cases he : tl[m] = to
          · have HS : Hid (ac2 ++ [((j : Int), (m : Int))] ++ (Ref.edgesTo to j (tl.drop (m + 1)) (m + 1) ++ Ref.edgesGo to (f.Blocks.drop (j + 1)) (j + 1)) = Ref.edges f to) := by
              refine hide ?_
              rw [← hsp2.out, hdr, Ref.edgesTo_hit he]; simp
            have heq : (tl[m] == to) = true := beq_iff_eq.2 he
            clear he hdr hval hsp2
            go_wp2_with (first | (at_builtin; refine wpList_append_own _ rfl _ _ 110 rfl w.heap.size 114 i0 (.agg #[.int .i64 0, .int .i64 0]) 2 16 Tryd.underlying110 hi hi0 hi1 hi2 rfl (by decide) _ _ _ rfl (hown2.alloc _) ⟨_, 0, none⟩ 1 1 [.int .i64 j, .int .i64 m] rfl rfl (cell_two_new _ _ _ _) (fun x hx => by simp at hx; rcases hx with rfl | rfl <;> rfl) (by unfold maxLen; omega) (by omega) (by simp; omega) ?_; intro v' w3 hown' hgrow3 hnil3))
            refine ⟨⟨m + 1, ac2 ++ [((j : Int), (m : Int))], by omega, by go_num, by simp; omega, ?_, ?_, HS⟩, by simp [intOf]; omega⟩
            · rw [edgeCells_snoc, List.length_append]; exact hown'
            · exact (below_al hbs _).grown hgrow3 (by simp; omega) (fun q hq => (hown2.lt q hq).1)
          · have HS : Hid (ac2 ++ (Ref.edgesTo to j (tl.drop (m + 1)) (m + 1) ++ Ref.edgesGo to (f.Blocks.drop (j + 1)) (j + 1)) = Ref.edges f to) := by
              rw [← hsp2.out, hdr, Ref.edgesTo_miss he]; exact rfl
            have heq : (tl[m] == to) = false := beq_eq_false_iff_ne.2 he
            clear he hdr hval hsp2
            go_wp2
            exact ⟨⟨m + 1, ac2, by omega, by go_num, by omega, hown2, hbs, HS⟩, by simp [intOf]; omega⟩
        · have HS : Hid (ac2 ++ Ref.edgesGo to (f.Blocks.drop (j + 1)) (j + 1) = Ref.edges f to) := by
            rw [← hsp2.out, show tl.drop m = [] from List.drop_of_length_le (by omega)]; exact rfl
          clear hval hsp2
          go_wp2
          exact ⟨⟨j + 1, ac2, by omega, by go_num, by omega, hown2, hbs, HS⟩, by simp [intOf]; omega⟩
    · have HS : Hid (acc = Ref.edges f to) := by
        refine hide ?_
        rw [← hsp.out, show f.Blocks.drop j = [] from List.drop_of_length_le (by omega)]; simp [Ref.edgesGo]
      clear hblk hsp
      go_wp2
      go_ret
      exact ⟨_, rfl, by rw [← HS.out]; exact hown, hbw⟩
end Go.Proofs.YtedkjanogjglkaaDoor.D


namespace Go.Proofs.YtedkjanogjglkaaDoor.D
open Go.RowKit

namespace Ref
open Go.Proofs.YtedkjanogjglkaaDoor.Ref
/-- A block can be come to from block 0, without ever coming to 'but': it lies in every set that holds block 0 and goes along the edges. -/
def Reach (f : RFunc) (but : Int) (i : Nat) : Prop :=
  ∀ S : Nat → Prop, S 0 → (∀ a (h : a < f.Blocks.length) (t : Nat), S a → (t : Int) ∈ f.Blocks[a].To → (t : Int) ≠ but → S t) → S i

theorem Reach.zero (f : RFunc) (but : Int) : Reach f but 0 := fun _ h0 _ => h0

theorem Reach.step {f : RFunc} {but : Int} {a t : Nat} (h : Reach f but a) (ha : a < f.Blocks.length) (ht : (t : Int) ∈ f.Blocks[a].To) (hb : (t : Int) ≠ but) : Reach f but t :=
  fun S h0 hs => hs a ha t (h S h0 hs) ht hb

/-- How many are not marked. -/
def falses (R : List Bool) : Nat := R.countP (fun b => !b)

theorem falses_set (R : List Bool) (i : Nat) (h : i < R.length) (hf : R[i] = false) : falses (R.set i true) + 1 = falses R := by
  induction R generalizing i with
  | nil => simp at h
  | cons b t ih =>
    cases i with
    | zero =>
      simp only [List.getElem_cons_zero] at hf
      subst hf
      simp [falses]
    | succ i =>
      simp only [List.getElem_cons_succ] at hf
      have := ih i (by simpa using h) hf
      simp only [falses, List.set_cons_succ, List.countP_cons] at this ⊢
      omega
end Ref

def boolRow (w : World) (g : Nat) (R : List Bool) : Prop := w.heap[g]? = some (.cells (R.map Value.bool).toArray 4)

theorem boolRow.cell {w : World} {g : Nat} {R : List Bool} (h : boolRow w g R) (i : Nat) (hi : i < R.length) : w.cell? ⟨g, i, none⟩ = some (.bool R[i]) :=
  blk_cell h i _ (by simp [hi])

theorem boolRow.set {w : World} {g : Nat} {R : List Bool} (h : boolRow w g R) (i : Nat) (b : Bool) : boolRow (w.setCell ⟨g, i, none⟩ (.bool b)) g (R.set i b) := by
  unfold boolRow at *
  rw [set_block h]
  simp [List.map_set]

theorem boolRow.own {w : World} {g base : Nat} {R : List Bool} (h : boolRow w g R) (hb : base ≤ g) (hm : R.length ≤ maxLen) : w.ownsRow base 4 1 (.slice (some ⟨g, 0, none⟩) R.length R.length) R.length (R.map Value.bool) :=
  ⟨by simp, Or.inr ⟨g, R.length, _, rfl, hb, h, Nat.le_refl _, hm, by simp, List.take_of_length_le (by simp)⟩⟩

theorem infoBool : (Tryd.prog.info? 4).map (fun i => (i.zero, i.size, i.bytes)) = some (some (.bool false), 1, 1) := by kernel_rfl

theorem boolRow_made {w : World} {base g n : Nat} (h : w.ownsRow base 4 1 (.slice (some ⟨g, 0, none⟩) n n) n (madeCells (Value.bool false).cells (n * 1)).toList) : boolRow w g (List.replicate n false) := by
  rcases h.2 with ⟨h0, _⟩ | ⟨g', cap, cur, hv, _, hg, _, _, hs, ht⟩
  · cases h0
  · simp only [Value.slice.injEq, Option.some.injEq, Addr.mk.injEq] at hv
    obtain ⟨⟨rfl, _⟩, _, rfl⟩ := hv
    unfold boolRow
    rw [hg]
    congr 2
    apply Array.toList_inj.1
    rw [← List.take_of_length_le (l := cur.toList) (i := n * 1) (by simp [hs]), ht]
    apply List.ext_getElem
    · simp [madeCells]
    · intro i h1 h2
      simp [madeCells, Value.cells, Nat.mod_one]

/-- What holds of the marks while they are gathered. -/
structure Marks (f : Ref.RFunc) (but : Int) (R : List Bool) : Prop where
  len : R.length = f.Blocks.length
  zero : R[0]? = some true
  sound : ∀ i (h : i < R.length), R[i] = true → Ref.Reach f but i

/-- All edges of block a (the first m) lead to marked blocks, or to the one that is left out, or a is not marked. -/
def ClosedAt (f : Ref.RFunc) (but : Int) (R : List Bool) (a m : Nat) : Prop :=
  ∀ (ha : a < f.Blocks.length) (k : Nat) (hk : k < f.Blocks[a].To.length), k < m → R[a]? = some true → f.Blocks[a].To[k] ≠ but → R[f.Blocks[a].To[k].toNat]? = some true

theorem marks_done {f : Ref.RFunc} {but : Int} {R : List Bool} (hm : Marks f but R) (hc : ∀ a, a < f.Blocks.length → ∀ m, ClosedAt f but R a m) (i : Nat) (hi : i < R.length) : R[i] = true ↔ Ref.Reach f but i := by
  constructor
  · exact hm.sound i hi
  · intro h
    have := h (fun j => R[j]? = some true) hm.zero (fun a ha t hs ht hb => by
      obtain ⟨k, hk, he⟩ := List.getElem_of_mem ht
      have h2 := hc a ha (k + 1) ha k hk (by omega) hs (by rw [he]; exact hb)
      rw [he] at h2
      simpa using h2)
    rw [List.getElem?_eq_getElem hi] at this
    exact Option.some.inj this

end Go.Proofs.YtedkjanogjglkaaDoor.D


namespace Go.Proofs.YtedkjanogjglkaaDoor.D
open Go.RowKit

def wfalses (w : World) (g : Nat) : Nat := match w.heap[g]? with
  | some (.cells c _ _) => c.toList.countP (fun v => match v with | .bool b => !b | _ => false)
  | _ => 0

theorem wfalses_row {w : World} {g : Nat} {R : List Bool} (h : boolRow w g R) : wfalses w g = Ref.falses R := by
  unfold boolRow at h
  simp only [wfalses, h, Ref.falses, List.countP_map]
  rfl

def boolN : Value → Nat
  | .bool true => 1
  | _ => 0

/-- The marks of round R against those of R0 with which the round began. -/
structure Gath (f : Ref.RFunc) (but : Int) (R0 R : List Bool) (b : Bool) : Prop where
  marks : Marks f but R
  le : Ref.falses R ≤ Ref.falses R0
  less : b = true → Ref.falses R < Ref.falses R0
  same : b = false → R = R0

theorem Gath.refl {f : Ref.RFunc} {but : Int} {R : List Bool} (h : Marks f but R) : Gath f but R R false := ⟨h, Nat.le_refl _, fun h => by simp at h, fun _ => rfl⟩

theorem Gath.mark {f : Ref.RFunc} {but : Int} {R0 R : List Bool} {b : Bool} (h : Gath f but R0 R b) (j : Nat) (hj : j < f.Blocks.length) (k : Nat) (hk : k < f.Blocks[j].To.length) (h1 : R[j]? = some true) (hb : f.Blocks[j].To[k] ≠ but)
    (h0 : 0 ≤ f.Blocks[j].To[k]) (hl : f.Blocks[j].To[k].toNat < R.length) (hf : R[f.Blocks[j].To[k].toNat] = false) : Gath f but R0 (R.set f.Blocks[j].To[k].toNat true) true := by
  have hfs := Ref.falses_set R _ hl hf
  have hjl : j < R.length := by rw [h.marks.len]; exact hj
  refine ⟨⟨by simp [h.marks.len], ?_, ?_⟩, by have := h.le; omega, fun _ => by have := h.le; omega, fun e => by cases e⟩
  · rw [List.getElem?_set]
    split
    · rfl
    · exact h.marks.zero
  · intro i hi ht
    rw [List.getElem_set] at ht
    split at ht
    · rename_i he
      subst he
      refine (h.marks.sound j hjl ?_).step hj (t := f.Blocks[j].To[k].toNat) ?_ ?_
      · rw [List.getElem?_eq_getElem hjl] at h1; exact Option.some.inj h1
      · rw [Int.toNat_of_nonneg h0]; exact List.getElem_mem hk
      · rw [Int.toNat_of_nonneg h0]; exact hb
    · exact h.marks.sound i (by simpa using hi) ht

set_option maxRecDepth 100000 in
set_option maxHeartbeats 4000000 in
theorem reach_some (f : Ref.RFunc) (fb : Nat) (but : Int) (w : World) (hf : RepFunc w fb f) (hn : 0 < f.Blocks.length) (hb : f.Blocks.length ≤ 1000) (htl : ∀ j (h : j < f.Blocks.length), f.Blocks[j].To.length ≤ 2)
    (hto : ∀ j (h : j < f.Blocks.length) k (hk : k < f.Blocks[j].To.length), 0 ≤ f.Blocks[j].To[k] ∧ f.Blocks[j].To[k] < f.Blocks.length) (hbut : ¬ but = 0) :
    Calls Tryd.prog 39 #[.pointer (some ⟨fb, 0, none⟩), .int .i64 but] w fun e w' => ∃ R : List Bool, e = .returned (.slice (some ⟨w.heap.size, 0, none⟩) f.Blocks.length f.Blocks.length) ∧ R.length = f.Blocks.length ∧ boolRow w' w.heap.size R ∧
      (∀ i (h : i < R.length), R[i] = true ↔ Ref.Reach f but i) ∧ Below w.heap.size w w' := by
  obtain ⟨i0, hi, hi0, hi1, hi2⟩ := info_parts infoBool
  obtain ⟨gb, cap, f0, f1, _⟩ := hf.open hn
  have HF := hide hf
  have HTL := hide htl
  have HTO := hide hto
  clear hf htl hto
  have hbz : (but == 0) = false := beq_eq_false_iff_ne.2 hbut
  go_enter Tryd.func39, Tryd.ntmps39
  go_wp2_with (first | (at_make; refine wpList_make_full _ rfl _ _ 79 rfl w.heap.size 4 i0 (.bool false) 1 Tryd.underlying79 hi hi0 hi1 .i64 .i64 _ _ f.Blocks.length rfl rfl rfl rfl (by rw [hi2]; omega) (by unfold maxLen; omega) (Nat.le_refl _) ?_; intro w1 hown1 hgrow1; have hr1 := boolRow_made hown1; have c0 := hr1.cell 0 (by simp; omega); have z0 := blk_froz hr1 0; simp at c0))
  have hm0 : Marks f but ((List.replicate f.Blocks.length false).set 0 true) := by
    refine ⟨by simp, by rw [List.getElem?_set_self (by simpa using hn)], fun i hi ht => ?_⟩
    rw [List.getElem_set] at ht
    split at ht
    · rename_i he; subst he; exact Ref.Reach.zero f but
    · simp at ht
  have hbl : Below w.heap.size w w1 := ⟨hgrow1.os, hgrow1.tape, hgrow1.output, hgrow1.size, fun k hk => hgrow1.block k hk (by simp)⟩
  have HM0 := hide hm0
  clear hm0
  go_loopw [6, 7, 8, 9] (fun ag _ _ _ wr => ∃ (R : List Bool) (b : Bool), ag = .bool b ∧ Hid (Marks f but R) ∧ boolRow wr w.heap.size R ∧ Below w.heap.size w wr ∧ Hid (b = false → ∀ a, a < f.Blocks.length → ∀ m, ClosedAt f but R a m))
    (fun ag _ _ _ wr => 2 * wfalses wr w.heap.size + boolN ag)
  case atStart => exact ⟨_, true, rfl, HM0, hr1.set 0 true, below_set0 hbl _ _, fun h => by cases h⟩
  case round =>
    obtain ⟨R0, b, rfl, hmk, hrow, hbw, hcl⟩ := hrel
    have hm0 := wfalses_row hrow
    cases b
    · have HC := hide (marks_done hmk.out (hcl.out rfl))
      have HL := hide hmk.out.len
      clear hm0
      go_wp2
      go_ret
      exact ⟨rfl, R0, HL.out, hrow, HC.out, hbw⟩
    · clear hcl
      have HM0' := hide hm0
      clear hm0
      go_wp2
      go_loopw [6, 7, 8, 9] (fun ag i _ _ ws => ∃ (j : Nat) (R : List Bool) (b : Bool), j ≤ f.Blocks.length ∧ i = .int .i64 j ∧ ag = .bool b ∧ Hid (Gath f but R0 R b) ∧ boolRow ws w.heap.size R ∧ Below w.heap.size w ws ∧ Hid (b = false → ∀ a, a < j → ∀ m, ClosedAt f but R a m))
        (fun _ i _ _ _ => f.Blocks.length - (intOf i).toNat)
      case atStart => exact ⟨0, R0, false, Nat.zero_le _, rfl, rfl, hide (Gath.refl hmk.out), hrow, hbw, fun _ a ha => by omega⟩
      case round =>
        obtain ⟨j, R, b, hj, rfl, rfl, hga, hrw, hbs, hcs⟩ := hrel
        rename_i ws _ _ _
        obtain ⟨gb, cap, f0, f1, hblk⟩ := (HF.out.below hbs).open hn
        by_cases hlt : j < f.Blocks.length
        · have HOP : Hid (∀ ws, Below w.heap.size w ws → ∃ gb cap p tcap, ws.cell? ⟨fb, 1, none⟩ = some (.slice (some ⟨gb, 0, none⟩) f.Blocks.length cap) ∧ ws.cell? ⟨gb, j * 4 + 3, none⟩ = some (.slice p f.Blocks[j].To.length tcap) ∧
              ∀ k (h : k < f.Blocks[j].To.length), ∃ g, p = some ⟨g, 0, none⟩ ∧ ws.cell? ⟨g, k, none⟩ = some (.int .i64 f.Blocks[j].To[k])) := by
            intro ws hws
            obtain ⟨gb, cap, _, f1, hblk⟩ := (HF.out.below hws).open hn
            obtain ⟨vs, tov, _, _, _, b3, _, hto⟩ := hblk j hlt
            obtain ⟨p, tcap, hv, hval⟩ := ints_open hto
            rw [hv] at b3
            exact ⟨gb, cap, p, tcap, f1, b3, hval⟩
          have hl1 := HTL.out j hlt
          have HTJ := hide (HTO.out j hlt)
          clear hblk f0 f1
          obtain ⟨gb, cap, p, tcap, f1, b3, _⟩ := HOP.out _ hbs
          have HCS := hide hcs.out
          go_wp2
          go_loopw [6, 8, 9] (fun ag k _ wt => ∃ (m : Nat) (R : List Bool) (b : Bool), m ≤ f.Blocks[j].To.length ∧ k = .int .i64 m ∧ ag = .bool b ∧ Hid (Gath f but R0 R b) ∧ boolRow wt w.heap.size R ∧ Below w.heap.size w wt ∧ Hid (b = false → (∀ a, a < j → ∀ m, ClosedAt f but R a m) ∧ ClosedAt f but R j m))
            (fun _ k _ _ => f.Blocks[j].To.length - (intOf k).toNat)
          case atStart => exact ⟨0, R, b, Nat.zero_le _, rfl, rfl, hga, hrw, hbs, fun h => ⟨HCS.out h, fun _ k _ hk => by omega⟩⟩
          case round =>
            obtain ⟨m, R, b, hm, rfl, rfl, hga, hrw, hbs, hcs⟩ := hrel
            clear f1 b3
            obtain ⟨gb, cap, p, tcap, f1, b3, hval⟩ := HOP.out _ hbs
            by_cases hmt : m < f.Blocks[j].To.length
            · obtain ⟨g, rfl, c0⟩ := hval m hmt
              have htr := HTJ.out m hmt
              have HLN := hide hga.out.marks.len
              obtain ⟨ht0, ht1⟩ := htr
              have hjl : j < R.length := by rw [HLN.out]; exact hlt
              have htl : f.Blocks[j].To[m].toNat < R.length := by rw [HLN.out]; omega
              have cj := hrw.cell j hjl
              have ct := hrw.cell _ htl
              have HCL : Hid ((R[j]? = some true → f.Blocks[j].To[m] ≠ but → R[f.Blocks[j].To[m].toNat]? = some true) → b = false → (∀ a, a < j → ∀ m, ClosedAt f but R a m) ∧ ClosedAt f but R j (m + 1)) := by
                intro hh hb'
                refine ⟨(hcs.out hb').1, fun h1 k hk hkm h2 h3 => ?_⟩
                by_cases hkm' : k = m
                · subst hkm'; exact hh h2 h3
                · exact (hcs.out hb').2 h1 k hk (by omega) h2 h3
              clear hval hcs
              cases hRj : R[j] with
              | false =>
                rw [hRj] at cj
                have HC2 := hide (HCL.out (fun h => by rw [List.getElem?_eq_getElem hjl, hRj] at h; cases h))
                clear hRj ct
                go_wp2
                exact ⟨⟨m + 1, R, b, by omega, by go_num, rfl, hga, hrw, hbs, HC2⟩, by simp [intOf]; omega⟩
              | true =>
                rw [hRj] at cj
                have HRJ : Hid (R[j]? = some true) := hide (by rw [List.getElem?_eq_getElem hjl, hRj])
                clear hRj
                by_cases hbu : f.Blocks[j].To[m] = but
                · have HC2 := hide (HCL.out (fun _ h => absurd hbu h))
                  have hne : (f.Blocks[j].To[m] != but) = false := by rw [hbu]; simp
                  clear hbu ct
                  go_wp2
                  exact ⟨⟨m + 1, R, b, by omega, by go_num, rfl, hga, hrw, hbs, HC2⟩, by simp [intOf]; omega⟩
                · have hne : (f.Blocks[j].To[m] != but) = true := by rw [bne_iff_ne]; exact hbu
                  cases hRt : R[f.Blocks[j].To[m].toNat] with
                  | true =>
                    rw [hRt] at ct
                    have HC2 := hide (HCL.out (fun _ _ => by rw [List.getElem?_eq_getElem htl, hRt]))
                    clear hRt hbu
                    go_wp2
                    exact ⟨⟨m + 1, R, b, by omega, by go_num, rfl, hga, hrw, hbs, HC2⟩, by simp [intOf]; omega⟩
                  | false =>
                    rw [hRt] at ct
                    have HG := hide (hga.out.mark j hlt m hmt HRJ.out hbu ht0 htl hRt)
                    have zt := blk_froz hrw f.Blocks[j].To[m].toNat
                    clear hRt hbu
                    go_wp2
                    exact ⟨⟨m + 1, _, true, by omega, by go_num, rfl, HG, hrw.set _ true, below_set0 hbs _ _, fun h => by cases h⟩, by simp [intOf]; omega⟩
            · have HC2 : Hid (b = false → ∀ a, a < j + 1 → ∀ m, ClosedAt f but R a m) := by
                intro hb' a ha m'
                by_cases haj : a = j
                · subst haj
                  intro h1 k hk _ h2 h3
                  exact (hcs.out hb').2 h1 k hk (by omega) h2 h3
                · exact (hcs.out hb').1 a (by omega) m'
              clear hval hcs
              go_wp2
              exact ⟨⟨j + 1, R, b, by omega, by go_num, rfl, hga, hrw, hbs, HC2⟩, by simp [intOf]; omega⟩
        · have hm1 := hide (wfalses_row hrw)
          have HC2 : Hid (b = false → ∀ a, a < f.Blocks.length → ∀ m, ClosedAt f but R a m) := fun hb' a ha m => hcs.out hb' a (by omega) m
          clear hblk
          go_wp2
          refine ⟨⟨R, b, rfl, hide hga.out.marks, hrw, hbs, HC2⟩, ?_⟩
          rw [hm1.out, HM0'.out]
          cases b
          · rw [hga.out.same rfl]; simp [boolN]
          · have := hga.out.less rfl
            simp [boolN]; omega
end Go.Proofs.YtedkjanogjglkaaDoor.D


namespace Go.Proofs.YtedkjanogjglkaaDoor.D
open Go.RowKit

namespace Ref
open Go.Proofs.YtedkjanogjglkaaDoor.Ref
/-- Where a v number is made, from the i-th block on. -/
def placeGo (n : Int) : List RBlk → Nat → Int × Int
  | [], _ => (-1, -1)
  | b :: t, i => match b.Values.findIdx? (fun x => x.V == n) with
    | some k => (i, k)
    | none => placeGo n t (i + 1)

def place (f : RFunc) (n : Int) : Int × Int := placeGo n f.Blocks 0

theorem placeGo_skip (n : Int) : ∀ (l : List RBlk) (j i : Nat), (∀ i', i' < j → ∀ (h : i' < l.length), l[i'].Values.findIdx? (fun x => x.V == n) = none) → placeGo n l i = placeGo n (l.drop j) (i + j) := by
  intro l
  induction l with
  | nil => intro j i _; simp [placeGo]
  | cons b t ih =>
    intro j i h
    cases j with
    | zero => rfl
    | succ j =>
      have h0 : b.Values.findIdx? (fun x => x.V == n) = none := h 0 (by omega) (by simp)
      have h1 : placeGo n (b :: t) i = placeGo n t (i + 1) := by simp only [placeGo, h0]
      rw [h1, ih j (i + 1) (fun i' hi' hl => h (i' + 1) (by omega) (by simpa using hl)), List.drop_succ_cons]
      congr 1
      omega

theorem place_hit (f : RFunc) (n : Int) (j m : Nat) (hj : j < f.Blocks.length) (h : ∀ i', i' < j → ∀ (h : i' < f.Blocks.length), f.Blocks[i'].Values.findIdx? (fun x => x.V == n) = none)
    (hm : f.Blocks[j].Values.findIdx? (fun x => x.V == n) = some m) : place f n = ((j : Int), (m : Int)) := by
  unfold place
  rw [placeGo_skip n f.Blocks j 0 h, List.drop_eq_getElem_cons hj]
  simp only [placeGo, hm, Nat.zero_add]

theorem place_miss (f : RFunc) (n : Int) (h : ∀ i', i' < f.Blocks.length → ∀ (h : i' < f.Blocks.length), f.Blocks[i'].Values.findIdx? (fun x => x.V == n) = none) : place f n = (-1, -1) := by
  unfold place
  rw [placeGo_skip n f.Blocks f.Blocks.length 0 h, List.drop_length]
  rfl

theorem findV_hit (l : List RVal) (n : Int) (m : Nat) (hm : m < l.length) (h : ∀ m', m' < m → ∀ (h : m' < l.length), ¬ l[m'].V = n) (he : l[m].V = n) : l.findIdx? (fun x => x.V == n) = some m := by
  rw [List.findIdx?_eq_some_iff_getElem]
  refine ⟨hm, by simp [he], fun j hj => ?_⟩
  have := h j hj (by omega)
  simpa using this

theorem findV_miss (l : List RVal) (n : Int) (h : ∀ m', m' < l.length → ∀ (h : m' < l.length), ¬ l[m'].V = n) : l.findIdx? (fun x => x.V == n) = none := by
  rw [List.findIdx?_eq_none_iff]
  intro x hx
  obtain ⟨i, hi, rfl⟩ := List.getElem_of_mem hx
  simpa using h i hi hi
end Ref

theorem ret_ii {a b : Int} {p : Int × Int} (h : p = (a, b)) : Ending.returned (.tuple #[.int .i64 a, .int .i64 b]) = .returned (.tuple #[.int .i64 p.1, .int .i64 p.2]) := by rw [h]

set_option maxRecDepth 100000 in
set_option maxHeartbeats 2000000 in
theorem place_any (f : Ref.RFunc) (fb : Nat) (n : Int) (w : World) (hf : RepFunc w fb f) (hn : 0 < f.Blocks.length) (hb : f.Blocks.length ≤ 1000000) (hvl : ∀ j (h : j < f.Blocks.length), f.Blocks[j].Values.length ≤ 1000000) :
    Calls Tryd.prog 63 #[.pointer (some ⟨fb, 0, none⟩), .int .i64 n] w fun e w' => e = .returned (.tuple #[.int .i64 (Ref.place f n).1, .int .i64 (Ref.place f n).2]) ∧ w' = w := by
  obtain ⟨gb, cap, f0, f1, hblk⟩ := hf.open hn
  have HBLK := hide hblk
  have HVL := hide hvl
  clear hblk hf hvl
  go_enter Tryd.func63, Tryd.ntmps63
  go_wp2
  go_loop [6, 7] (fun i _ => ∃ j : Nat, j ≤ f.Blocks.length ∧ i = .int .i64 j ∧ Hid (∀ i', i' < j → ∀ (h : i' < f.Blocks.length), f.Blocks[i'].Values.findIdx? (fun x => x.V == n) = none)) (fun i _ => f.Blocks.length - (intOf i).toNat)
  case atStart => exact ⟨0, Nat.zero_le _, rfl, fun i' h => by omega⟩
  case round =>
    obtain ⟨j, hj, rfl, hno⟩ := hrel
    by_cases hlt : j < f.Blocks.length
    · obtain ⟨vs, to, b0, b1, b2, b3, hvs, hto⟩ := HBLK.out j hlt
      obtain ⟨p, vcap, rfl, hval⟩ := hvs.open
      have HVAL := hide hval
      have hl1 := HVL.out j hlt
      have HH := hide (fun m hm => Ref.place_hit f n j m hlt hno.out hm)
      have HN2 : Hid (f.Blocks[j].Values.findIdx? (fun x => x.V == n) = none → ∀ i', i' < j + 1 → ∀ (h : i' < f.Blocks.length), f.Blocks[i'].Values.findIdx? (fun x => x.V == n) = none) := by
        intro hh i' hi' hl
        by_cases he : i' = j
        · subst he; exact hh
        · exact hno.out i' (by omega) hl
      clear hval hvs hto b1 b2 b3
      generalize hvl : f.Blocks[j].Values = vl at *
      clear hvl
      go_wp2
      go_loop [7] (fun k => ∃ m : Nat, m ≤ vl.length ∧ k = .int .i64 m ∧ Hid (∀ m', m' < m → ∀ (h : m' < vl.length), ¬ vl[m'].V = n)) (fun k => vl.length - (intOf k).toNat)
      case atStart => exact ⟨0, Nat.zero_le _, rfl, fun i' h => by omega⟩
      case round =>
        obtain ⟨m, hm, rfl, hnv⟩ := hrel
        by_cases hmt : m < vl.length
        · obtain ⟨g, a, rfl, v0, v1, v2, v3, _⟩ := HVAL.out m hmt
          by_cases he : vl[m].V = n
          · have HF := hide (HH.out m (Ref.findV_hit vl n m hmt hnv.out he))
            have heq : (vl[m].V == n) = true := beq_iff_eq.2 he
            clear he
            go_wp2
            go_ret2
            exact ⟨ret_ii HF.out, rfl⟩
          · have HF : Hid (∀ m', m' < m + 1 → ∀ (h : m' < vl.length), ¬ vl[m'].V = n) := by
              intro m' hm' hl
              by_cases hq : m' = m
              · subst hq; exact he
              · exact hnv.out m' (by omega) hl
            have heq : (vl[m].V == n) = false := beq_eq_false_iff_ne.2 he
            clear he
            go_wp2
            exact ⟨⟨m + 1, by omega, by go_num, HF⟩, by simp [intOf]; omega⟩
        · have HF := hide (HN2.out (Ref.findV_miss vl n (fun m' hm' hl => hnv.out m' (by omega) hl)))
          go_wp2
          exact ⟨⟨j + 1, by omega, by go_num, HF⟩, by simp [intOf]; omega⟩
    · have HF := hide (Ref.place_miss f n (fun i' hi' hl => hno.out i' (by omega) hl))
      go_wp2
      go_ret2
      exact ⟨ret_ii HF.out, rfl⟩
end Go.Proofs.YtedkjanogjglkaaDoor.D


namespace Go.Proofs.YtedkjanogjglkaaDoor.D
open Go.RowKit

/-- What a function must be that its blocks are gone through: it has blocks, few of them; each goes to blocks that there are. -/
structure Fine (f : Ref.RFunc) : Prop where
  pos : 0 < f.Blocks.length
  few : f.Blocks.length ≤ 1000
  ways : ∀ j (h : j < f.Blocks.length), f.Blocks[j].To.length ≤ 2
  to : ∀ j (h : j < f.Blocks.length) k (hk : k < f.Blocks[j].To.length), 0 ≤ f.Blocks[j].To[k] ∧ f.Blocks[j].To[k] < f.Blocks.length
  vals : ∀ j (h : j < f.Blocks.length), f.Blocks[j].Values.length ≤ 1000000

set_option maxRecDepth 100000 in
set_option maxHeartbeats 2000000 in
theorem reach_zero (f : Ref.RFunc) (fb : Nat) (w : World) (hf : RepFunc w fb f) (hn : 0 < f.Blocks.length) (hb : f.Blocks.length ≤ 1000) :
    Calls Tryd.prog 39 #[.pointer (some ⟨fb, 0, none⟩), .int .i64 0] w fun e w' => e = .returned (.slice (some ⟨w.heap.size, 0, none⟩) f.Blocks.length f.Blocks.length) ∧ boolRow w' w.heap.size (List.replicate f.Blocks.length false) ∧ Below w.heap.size w w' := by
  obtain ⟨i0, hi, hi0, hi1, hi2⟩ := info_parts infoBool
  obtain ⟨gb, cap, f0, f1, _⟩ := hf.open hn
  clear hf
  go_enter Tryd.func39, Tryd.ntmps39
  go_wp2_with (first | (at_make; refine wpList_make_full _ rfl _ _ 79 rfl w.heap.size 4 i0 (.bool false) 1 Tryd.underlying79 hi hi0 hi1 .i64 .i64 _ _ f.Blocks.length rfl rfl rfl rfl (by rw [hi2]; omega) (by unfold maxLen; omega) (Nat.le_refl _) ?_; intro w1 hown1 hgrow1; have hr1 := boolRow_made hown1))
  go_ret
  exact ⟨rfl, hr1, ⟨hgrow1.os, hgrow1.tape, hgrow1.output, hgrow1.size, fun k hk => hgrow1.block k hk (by simp)⟩⟩

theorem reach_any (f : Ref.RFunc) (fb : Nat) (but : Int) (w : World) (hf : RepFunc w fb f) (hF : Fine f) :
    Calls Tryd.prog 39 #[.pointer (some ⟨fb, 0, none⟩), .int .i64 but] w fun e w' => ∃ R : List Bool, e = .returned (.slice (some ⟨w.heap.size, 0, none⟩) f.Blocks.length f.Blocks.length) ∧ R.length = f.Blocks.length ∧ boolRow w' w.heap.size R ∧
      (∀ i (h : i < R.length), R[i] = true ↔ (but ≠ 0 ∧ Ref.Reach f but i)) ∧ Below w.heap.size w w' := by
  by_cases hb : but = 0
  · subst hb
    refine (reach_zero f fb w hf hF.pos hF.few).mono ?_
    rintro e w' ⟨rfl, h1, h2⟩
    exact ⟨_, rfl, by simp, h1, fun i hi => by simp, h2⟩
  · refine (reach_some f fb but w hf hF.pos hF.few hF.ways hF.to hb).mono ?_
    rintro e w' ⟨R, rfl, h0, h1, h2, h3⟩
    exact ⟨R, rfl, h0, h1, fun i hi => by rw [h2 i hi]; simp [hb], h3⟩

namespace Ref
open Go.Proofs.YtedkjanogjglkaaDoor.Ref
/-- A v number is made on every way to a block's value at a place. -/
def Made (f : RFunc) (n : Int) (block : Nat) (at_ : Int) : Prop :=
  0 ≤ (place f n).1 ∧ (((place f n).1 = block ∧ (place f n).2 < at_) ∨ ((place f n).1 ≠ block ∧ ¬ ((place f n).1 ≠ 0 ∧ Reach f (place f n).1 block)))
end Ref

set_option maxRecDepth 100000 in
set_option maxHeartbeats 2000000 in
theorem made_any (f : Ref.RFunc) (fb : Nat) (n : Int) (block : Nat) (at_ : Int) (w : World) (hf : RepFunc w fb f) (hF : Fine f) (hbl : block < f.Blocks.length) :
    Calls Tryd.prog 52 #[.pointer (some ⟨fb, 0, none⟩), .int .i64 n, .int .i64 block, .int .i64 at_] w fun e w' => ∃ b : Bool, e = .returned (.bool b) ∧ (b = true ↔ Ref.Made f n block at_) ∧ Below w.heap.size w w' := by
  have HP := hide (fun W hW => place_any f fb n W hW hF.pos (by have := hF.few; omega) hF.vals)
  have HR := hide (fun but W hW => reach_any f fb but W hW hF)
  have HMD : Hid (Ref.Made f n block at_ ↔ (0 ≤ (Ref.place f n).1 ∧ (((Ref.place f n).1 = block ∧ (Ref.place f n).2 < at_) ∨ ((Ref.place f n).1 ≠ block ∧ ¬ ((Ref.place f n).1 ≠ 0 ∧ Ref.Reach f (Ref.place f n).1 block))))) := Iff.rfl
  have hfew := hF.few
  clear hF
  go_enter Tryd.func52, Tryd.ntmps52
  go_wp2_with fail
  refine (HP.out w hf).mono ?_
  rintro e w ⟨rfl, rfl⟩
  clear HP
  generalize (Ref.place f n).1 = pb at *
  generalize (Ref.place f n).2 = pk at *
  have HFR := hide hf
  clear hf
  by_cases h1 : pb < 0
  · go_wp2
    go_ret
    exact ⟨false, rfl, by rw [HMD.out]; simp; omega, Below.refl _ _⟩
  · by_cases h2 : pb = block
    · have h3 : (pb == (block : Int)) = true := beq_iff_eq.2 h2
      go_wp2
      go_ret
      exact ⟨decide (pk < at_), rfl, by rw [HMD.out]; simp [h2], Below.refl _ _⟩
    · have h3 : (pb == (block : Int)) = false := beq_eq_false_iff_ne.2 h2
      have H2 := hide h2
      clear h2
      go_wp2_with fail
      refine (HR.out pb w HFR.out).mono ?_
      rintro e w1 ⟨R, rfl, hl, hrow, hR, hbw⟩
      have cb := hrow.cell block (by omega)
      have HRB := hide (hR block (by omega))
      clear hR
      generalize hq : R[block] = q at *
      go_wp2
      go_ret
      refine ⟨!q, rfl, ?_, hbw⟩
      rw [HMD.out]
      have h5 := HRB.out
      have h6 := H2.out
      cases q <;> simp_all <;> omega
end Go.Proofs.YtedkjanogjglkaaDoor.D


namespace Go.Proofs.YtedkjanogjglkaaDoor.D
open Go.RowKit

namespace Ref
open Go.Proofs.YtedkjanogjglkaaDoor.Ref
theorem edgesTo_from (to : Int) (i : Nat) : ∀ (l : List Int) (k : Nat), ∀ p ∈ edgesTo to i l k, p.1 = (i : Int) := by
  intro l
  induction l with
  | nil => intro k p hp; cases hp
  | cons t r ih =>
    intro k p hp
    unfold edgesTo at hp
    split at hp
    · rcases List.mem_cons.1 hp with rfl | hp
      · rfl
      · exact ih _ p hp
    · exact ih _ p hp

theorem edgesGo_from (to : Int) : ∀ (l : List RBlk) (i : Nat), ∀ p ∈ edgesGo to l i, ∃ a : Nat, p.1 = (a : Int) ∧ i ≤ a ∧ a < i + l.length := by
  intro l
  induction l with
  | nil => intro i p hp; cases hp
  | cons b t ih =>
    intro i p hp
    unfold edgesGo at hp
    rcases List.mem_append.1 hp with hp | hp
    · exact ⟨i, edgesTo_from to i _ _ p hp, Nat.le_refl _, by simp⟩
    · obtain ⟨a, h1, h2, h3⟩ := ih (i + 1) p hp
      exact ⟨a, h1, by omega, by simp; omega⟩

theorem edges_from (f : RFunc) (to : Int) (j : Nat) (h : j < (edges f to).length) : ∃ a : Nat, (edges f to)[j].1 = (a : Int) ∧ a < f.Blocks.length := by
  obtain ⟨a, h1, _, h3⟩ := edgesGo_from to f.Blocks 0 _ (List.getElem_mem (l := edges f to) h)
  exact ⟨a, h1, by omega⟩

/-- The j-th use of a value (the k-th of block i). -/
def UseAt (f : RFunc) (i k : Nat) (op : List UInt8) (n : Int) (j : Nat) : Prop :=
  (op = sPhi → ∃ (h : j < (edges f i).length) (a : Nat) (ha : a < f.Blocks.length), (edges f i)[j].1 = (a : Int) ∧ Made f n a f.Blocks[a].Values.length) ∧ (op ≠ sPhi → Made f n i k)

def ValOk (f : RFunc) (i k : Nat) (x : RVal) : Prop :=
  (x.Op = sPhi → x.Args.length = (edges f i).length ∧ i ≠ 0) ∧ ∀ j (h : j < x.Args.length), UseAt f i k x.Op x.Args[j] j

/-- All that a block uses is made ahead. -/
def Uses (f : RFunc) (i : Nat) (hi : i < f.Blocks.length) : Prop :=
  (∀ k (h : k < f.Blocks[i].Values.length), ValOk f i k f.Blocks[i].Values[k]) ∧ (Made f f.Blocks[i].V i f.Blocks[i].Values.length ∨ f.Blocks[i].Last = sJump)
end Ref

theorem edgeCells_get (l : List (Int × Int)) (j : Nat) (h : j < l.length) : (edgeCells l)[j * 2]? = some (.int .i64 l[j].1) := by
  induction l generalizing j with
  | nil => simp at h
  | cons p t ih =>
    cases j with
    | zero => simp [edgeCells]
    | succ j =>
      have := ih j (by simpa using h)
      simp only [edgeCells] at this
      simp only [edgeCells, List.flatMap_cons, List.getElem_cons_succ, show (j + 1) * 2 = j * 2 + 2 by omega]
      simpa using this

set_option maxRecDepth 100000 in
set_option maxHeartbeats 4000000 in
theorem uses_any (f : Ref.RFunc) (fb : Nat) (i : Nat) (w : World) (hf : RepFunc w fb f) (hF : Fine f) (hi : i < f.Blocks.length) (hal : ∀ k (h : k < f.Blocks[i].Values.length), f.Blocks[i].Values[k].Args.length ≤ 1000000) :
    Calls Tryd.prog 40 #[.pointer (some ⟨fb, 0, none⟩), .int .i64 i] w fun e w' => ∃ b : Bool, e = .returned (.bool b) ∧ (b = true ↔ Ref.Uses f i hi) ∧ Below w.heap.size w w' := by
  obtain ⟨gb, cap, f0, f1, hblk⟩ := hf.open hF.pos
  obtain ⟨vs, to, b0, b1, b2, b3, hvs, hto⟩ := hblk i hi
  obtain ⟨pt, ct, ht⟩ := own_slice hto
  obtain ⟨pv, cv, hv, _⟩ := hvs.open
  subst ht
  subst hv
  have hn := hF.few
  have HV := hide hvs
  have HT := hide hto
  have HFR := hide hf
  have HFI := hide hF
  have HAL := hide hal
  have HED := hide (fun W hW => edges_any f fb i W hW hF.pos hF.few hF.ways)
  have hvl := hF.vals i hi
  clear hblk hvs hto hf hF hal f0
  go_enter Tryd.func40, Tryd.ntmps40
  go_wp2_with fail
  refine (HED.out _ ?_).mono ?_
  · exact HFR.out.below ((Below.refl _ _).alloc (Nat.le_refl _) _)
  rintro e w1 ⟨vin, rfl, hin, hb1⟩
  obtain ⟨pe, ce, he⟩ := own_slice hin
  subst he
  have hcp := hide (kept_new hb1)
  obtain ⟨y0, y1, y2, y3, y4, y5, y6, y7⟩ := blk4 hcp.out
  have hbw1 := below_of_new hb1
  have HIN := hide hin
  clear hin b0 b1 b2 b3 f1
  have HEL : Hid (f.Blocks[i].Values.length ≤ 1000000) := hvl
  go_wp2_with fail
  go_loopw [7, 8, 9, 10] (fun k _ _ _ wr => ∃ m : Nat, m ≤ f.Blocks[i].Values.length ∧ k = .int .i64 m ∧ Below w1.heap.size w1 wr ∧ Hid (∀ k' (h : k' < f.Blocks[i].Values.length), k' < m → Ref.ValOk f i k' f.Blocks[i].Values[k']))
    (fun k _ _ _ _ => f.Blocks[i].Values.length - (intOf k).toNat)
  case atStart => exact ⟨0, Nat.zero_le _, rfl, Below.refl _ _, fun k' _ h => by omega⟩
  case round =>
    rename World => wo
    obtain ⟨m, hm, rfl, hbr, hok⟩ := hrel
    have hs1 := hbw1.size
    have hs1' : w.heap.size < w1.heap.size := lt_of_block hcp.out
    have hs2 := hbr.size
    have hcr : wo.heap[w.heap.size]? = some _ := (hbr.block w.heap.size hs1').trans hcp.out
    have HCR := hide hcr
    clear y0 y1 y2 y3 y4 y5 y6 y7
    obtain ⟨y0, y1, y2, y3, y4, y5, y6, y7⟩ := blk4 hcr
    clear hcr
    have hbwr := hide (hbw1.trans (hbr.mono (by omega)))
    by_cases hlt : m < f.Blocks[i].Values.length
    · obtain ⟨p', cv', hv', hval⟩ := (HV.out.below hbwr.out).open
      simp only [Value.slice.injEq] at hv'
      obtain ⟨rfl, _, rfl⟩ := hv'
      obtain ⟨g, a, rfl, v0, v1, v2, v3, hargs⟩ := hval m hlt
      obtain ⟨pa, ca, ha⟩ := own_slice hargs
      subst ha
      have HARG := hide hargs
      clear hval hargs
      have hargl := HAL.out m hlt
      by_cases hop : f.Blocks[i].Values[m].Op = Ref.sPhi
      · have hopb : ((bs f.Blocks[i].Values[m].Op).toList == [112, 104, 105]) = true := toList_yes (by rw [bl_bs]; exact hop)
        have HOP := hide hop
        clear hop
        by_cases hE : f.Blocks[i].Values[m].Args.length = (Ref.edges f i).length ∧ i ≠ 0
        · have HE := hide hE.1
          have HI0 := hide hE.2
          have hne : (((f.Blocks[i].Values[m].Args.length : Nat) : Int) != ((Ref.edges f i).length : Int)) = false := by rw [hE.1]; simp
          have hi0 : ((i : Int) == 0) = false := beq_eq_false_iff_ne.2 (by have := hE.2; omega)
          clear hE
          go_wp2_with fail
          go_loopw [9, 10] (fun j _ wr => ∃ q : Nat, q ≤ f.Blocks[i].Values[m].Args.length ∧ j = .int .i64 q ∧ Below (wo.heap.size + 1) (wo.alloc (.cells #[.int .i64 f.Blocks[i].Values[m].V, .string (bs f.Blocks[i].Values[m].Op), .int .i64 f.Blocks[i].Values[m].N, .slice pa f.Blocks[i].Values[m].Args.length ca] 58)) wr ∧
              Hid (∀ j' (h : j' < f.Blocks[i].Values[m].Args.length), j' < q → Ref.UseAt f i m f.Blocks[i].Values[m].Op f.Blocks[i].Values[m].Args[j'] j'))
            (fun j _ _ => f.Blocks[i].Values[m].Args.length - (intOf j).toNat)
          case atStart => exact ⟨0, Nat.zero_le _, rfl, Below.refl _ _, fun j' _ h => by omega⟩
          case round =>
            obtain ⟨q, hq, rfl, hbx, huse⟩ := hrel
            have hxs := hbx.size
            simp only [World.size_alloc] at hxs
            have hxb : wr.heap[wo.heap.size]? = some _ := (hbx.block wo.heap.size (by omega)).trans (heap_alloc_new wo _)
            obtain ⟨x0, x1, x2, x3, x4, x5, x6, x7⟩ := blk4 hxb
            have hbrs := hide (((Below.refl wo.heap.size wo).alloc (Nat.le_refl _) _).trans (hbx.mono (by omega)))
            have hbws := hide (hbwr.out.trans (hbrs.out.mono (by omega)))
            have hfs := hide (HFR.out.below hbws.out)
            have hcs : wr.heap[w.heap.size]? = some _ := (hbrs.out.block w.heap.size (by omega)).trans HCR.out
            obtain ⟨yy0, yy1, yy2, yy3, yy4, yy5, yy6, yy7⟩ := blk4 hcs
            clear hxb hcs
            by_cases hqt : q < f.Blocks[i].Values[m].Args.length
            · obtain ⟨p2, c2, hp2, hint⟩ := ints_open (own_below HARG.out hbrs.out)
              simp only [Value.slice.injEq] at hp2
              obtain ⟨rfl, _, rfl⟩ := hp2
              obtain ⟨ga, rfl, cq⟩ := hint q hqt
              clear hint
              have hqe : q < (Ref.edges f i).length := by have := HE.out; omega
              obtain ⟨ea, hea, hal⟩ := Ref.edges_from f i q hqe
              have hin2 := own_below (own_below HIN.out hbr) hbrs.out
              obtain ⟨ge, ce2, hpe, _, _, hcE⟩ := row_open hin2 (by omega)
              simp only [Value.slice.injEq] at hpe
              obtain ⟨rfl, _, rfl⟩ := hpe
              have cE := hcE _ _ (edgeCells_get _ q hqe)
              rw [hea] at cE
              clear hcE hin2
              obtain ⟨gbs, capb, _, f1, hblks⟩ := hfs.out.open HFI.out.pos
              obtain ⟨vsa, toa, d0, _, _, _, hvsa, _⟩ := hblks ea hal
              obtain ⟨pva, cva, rfl, _⟩ := hvsa.open
              have hvla := HFI.out.vals ea hal
              clear hblks hvsa
              have HEA := hide hea
              clear hea
              have HM := hide (fun W hW => made_any f fb f.Blocks[i].Values[m].Args[q] ea f.Blocks[ea].Values.length W hW HFI.out hal)
              have s1 : (0 : Int) ≤ (q : Int) := by omega
              have s2 : (q : Int) < (f.Blocks[i].Values[m].Args.length : Int) := by omega
              have s3 : (q : Int) < ((Ref.edges f i).length : Int) := by omega
              have s4 : (0 : Int) ≤ (ea : Int) := by omega
              have s5 : (ea : Int) < (f.Blocks.length : Int) := by omega
              go_wp2_with fail
              go_region_held3 (fun w' => w'.cell? ⟨wo.heap.size, 3, none⟩ = some (.slice (some ⟨ga, 0, none⟩) f.Blocks[i].Values[m].Args.length ca) ∧ w'.cell? ⟨ga, q, none⟩ = some (.int .i64 f.Blocks[i].Values[m].Args[q]) ∧ w'.cell? ⟨ge, q * 2, none⟩ = some (.int .i64 (ea : Int)) ∧ w'.cell? ⟨fb, 1, none⟩ = some (.slice (some ⟨gbs, 0, none⟩) f.Blocks.length capb) ∧ w'.cell? ⟨gbs, ea * 4, none⟩ = some (.slice pva f.Blocks[ea].Values.length cva)) (go_keep) (first | (go_at_call 52; refine (HM.out _ ?_).mono ?_; exact hfs.out; rintro e w2 ⟨b, rfl, hbm, hb2'⟩; have hk : ∀ b o v, wr.cell? ⟨b, o, none⟩ = some v → w2.cell? ⟨b, o, none⟩ = some v := fun b o v h => (hb2'.cell (p := ⟨b, o, none⟩) (World.block_lt_of_cell? wr _ h)).trans h; have k1 := hk _ _ _ x3; have k2 := hk _ _ _ cq; have k3 := hk _ _ _ cE; have k4 := hk _ _ _ f1; have k5 := hk _ _ _ d0; clear hk))
              have hb2 : Below wr.heap.size wr w2 := ((Below.refl _ wr).drew).trans hb2'
              have hb3 := hide (hbx.trans (hb2.mono (by omega)))
              cases b
              · have HNO : Hid (¬ Ref.Uses f i hi) := hide (fun hu => by
                  have h1 := (hu.1 m hlt).2 q hqt
                  have h2 := hbm.2 ((fun h => by obtain ⟨_, a', ha', he', hm'⟩ := h.1 HOP.out; rw [HEA.out] at he'; have hq9 : a' = ea := (by omega); subst hq9; exact hm') h1)
                  cases h2)
                clear hbm
                go_wp2_with fail
                go_ret
                refine ⟨false, rfl, ⟨fun h => (by cases h), fun h => absurd h HNO.out⟩, ?_⟩
                exact hbwr.out.trans ((((Below.refl wo.heap.size wo).alloc (Nat.le_refl _) _).trans (hb3.out.mono (by omega))).mono (by omega))
              · have HU : Hid (∀ j' (h : j' < f.Blocks[i].Values[m].Args.length), j' < q + 1 → Ref.UseAt f i m f.Blocks[i].Values[m].Op f.Blocks[i].Values[m].Args[j'] j') := by
                  intro j' hj' hlt'
                  by_cases hjq : j' = q
                  · subst hjq; exact (fun h => ⟨fun _ => ⟨hqe, ea, hal, HEA.out, h⟩, fun hp => absurd HOP.out hp⟩) (hbm.1 rfl)
                  · exact huse.out j' hj' (by omega)
                clear hbm
                go_wp2_with fail
                exact ⟨⟨q + 1, by omega, by go_num, hb3.out, HU⟩, by simp [intOf]; omega⟩
            · have HVO : Hid (∀ k' (h : k' < f.Blocks[i].Values.length), k' < m + 1 → Ref.ValOk f i k' f.Blocks[i].Values[k']) := by
                intro k' hk' hlt'
                by_cases hkm : k' = m
                · subst hkm; exact ⟨fun _ => ⟨HE.out, HI0.out⟩, fun j' hj' => huse.out j' hj' (by omega)⟩
                · exact hok.out k' hk' (by omega)
              go_wp2_with fail
              exact ⟨⟨m + 1, by omega, by go_num, (hbr.trans (hbrs.out.mono (by omega))), HVO⟩, by simp [intOf]; omega⟩
        · have HNO : Hid (¬ Ref.Uses f i hi) := hide (fun hu => hE ((hu.1 m hlt).1 HOP.out))
          have hcase : (((f.Blocks[i].Values[m].Args.length : Nat) : Int) != ((Ref.edges f i).length : Int)) = true ∨ ((((f.Blocks[i].Values[m].Args.length : Nat) : Int) != ((Ref.edges f i).length : Int)) = false ∧ ((i : Int) == 0) = true) := by
            by_cases h1 : f.Blocks[i].Values[m].Args.length = (Ref.edges f i).length
            · refine Or.inr ⟨by rw [h1]; simp, beq_iff_eq.2 ?_⟩
              by_cases h2 : i = 0
              · omega
              · exact absurd ⟨h1, h2⟩ hE
            · exact Or.inl (by rw [bne_iff_ne]; omega)
          clear hE
          rcases hcase with h1 | ⟨h1, h2⟩
          all_goals
            go_wp2_with fail
            go_ret
            exact ⟨false, rfl, ⟨fun h => (by cases h), fun h => absurd h HNO.out⟩, below_al hbwr.out _⟩
      · have hopb : ((bs f.Blocks[i].Values[m].Op).toList == [112, 104, 105]) = false := toList_no (by rw [bl_bs]; exact hop)
        have HOP := hide hop
        clear hop
        · go_wp2_with fail
          go_loopw [9, 10] (fun j _ wr => ∃ q : Nat, q ≤ f.Blocks[i].Values[m].Args.length ∧ j = .int .i64 q ∧ Below (wo.heap.size + 1) (wo.alloc (.cells #[.int .i64 f.Blocks[i].Values[m].V, .string (bs f.Blocks[i].Values[m].Op), .int .i64 f.Blocks[i].Values[m].N, .slice pa f.Blocks[i].Values[m].Args.length ca] 58)) wr ∧
              Hid (∀ j' (h : j' < f.Blocks[i].Values[m].Args.length), j' < q → Ref.UseAt f i m f.Blocks[i].Values[m].Op f.Blocks[i].Values[m].Args[j'] j'))
            (fun j _ _ => f.Blocks[i].Values[m].Args.length - (intOf j).toNat)
          case atStart => exact ⟨0, Nat.zero_le _, rfl, Below.refl _ _, fun j' _ h => by omega⟩
          case round =>
            obtain ⟨q, hq, rfl, hbx, huse⟩ := hrel
            have hxs := hbx.size
            simp only [World.size_alloc] at hxs
            have hxb : wr.heap[wo.heap.size]? = some _ := (hbx.block wo.heap.size (by omega)).trans (heap_alloc_new wo _)
            obtain ⟨x0, x1, x2, x3, x4, x5, x6, x7⟩ := blk4 hxb
            have hbrs := hide (((Below.refl wo.heap.size wo).alloc (Nat.le_refl _) _).trans (hbx.mono (by omega)))
            have hbws := hide (hbwr.out.trans (hbrs.out.mono (by omega)))
            have hfs := hide (HFR.out.below hbws.out)
            have hcs : wr.heap[w.heap.size]? = some _ := (hbrs.out.block w.heap.size (by omega)).trans HCR.out
            obtain ⟨yy0, yy1, yy2, yy3, yy4, yy5, yy6, yy7⟩ := blk4 hcs
            clear hxb hcs
            by_cases hqt : q < f.Blocks[i].Values[m].Args.length
            · obtain ⟨p2, c2, hp2, hint⟩ := ints_open (own_below HARG.out hbrs.out)
              simp only [Value.slice.injEq] at hp2
              obtain ⟨rfl, _, rfl⟩ := hp2
              obtain ⟨ga, rfl, cq⟩ := hint q hqt
              clear hint
              go_wp2_with fail
              refine (made_any f fb f.Blocks[i].Values[m].Args[q] i m wr hfs.out HFI.out hi).mono ?_
              rintro e w2 ⟨b, rfl, hbm, hb2⟩
              have hb3 := hide (hbx.trans (hb2.mono (by omega)))
              cases b
              · have HNO : Hid (¬ Ref.Uses f i hi) := hide (fun hu => by
                  have h1 := (hu.1 m hlt).2 q hqt
                  have h2 := hbm.2 ((fun h => h.2 HOP.out) h1)
                  cases h2)
                clear hbm
                go_wp2_with fail
                go_ret
                refine ⟨false, rfl, ⟨fun h => (by cases h), fun h => absurd h HNO.out⟩, ?_⟩
                exact hbwr.out.trans ((((Below.refl wo.heap.size wo).alloc (Nat.le_refl _) _).trans (hb3.out.mono (by omega))).mono (by omega))
              · have HU : Hid (∀ j' (h : j' < f.Blocks[i].Values[m].Args.length), j' < q + 1 → Ref.UseAt f i m f.Blocks[i].Values[m].Op f.Blocks[i].Values[m].Args[j'] j') := by
                  intro j' hj' hlt'
                  by_cases hjq : j' = q
                  · subst hjq; exact (fun h => ⟨fun hp => absurd hp HOP.out, fun _ => h⟩) (hbm.1 rfl)
                  · exact huse.out j' hj' (by omega)
                clear hbm
                go_wp2_with fail
                exact ⟨⟨q + 1, by omega, by go_num, hb3.out, HU⟩, by simp [intOf]; omega⟩
            · have HVO : Hid (∀ k' (h : k' < f.Blocks[i].Values.length), k' < m + 1 → Ref.ValOk f i k' f.Blocks[i].Values[k']) := by
                intro k' hk' hlt'
                by_cases hkm : k' = m
                · subst hkm; exact ⟨fun hp => absurd hp HOP.out, fun j' hj' => huse.out j' hj' (by omega)⟩
                · exact hok.out k' hk' (by omega)
              go_wp2_with fail
              exact ⟨⟨m + 1, by omega, by go_num, (hbr.trans (hbrs.out.mono (by omega))), HVO⟩, by simp [intOf]; omega⟩
    · have HVO : Hid (∀ k' (h : k' < f.Blocks[i].Values.length), Ref.ValOk f i k' f.Blocks[i].Values[k']) := fun k' h => hok.out k' h (by omega)
      have hfr := hide (HFR.out.below hbwr.out)
      go_wp2_with fail
      refine (made_any f fb f.Blocks[i].V i f.Blocks[i].Values.length wo hfr.out HFI.out hi).mono ?_
      rintro e w2 ⟨b, rfl, hbm, hb2⟩
      have hc2 : w2.heap[w.heap.size]? = some _ := (hb2.block w.heap.size (by omega)).trans HCR.out
      obtain ⟨yy0, yy1, yy2, yy3, yy4, yy5, yy6, yy7⟩ := blk4 hc2
      have HB2 := hide (hbwr.out.trans (hb2.mono (by omega)))
      clear hc2
      cases b
      · have HBM := hide (show ¬ Ref.Made f f.Blocks[i].V i f.Blocks[i].Values.length from fun h => by have := hbm.2 h; cases this)
        clear hbm
        by_cases hj : f.Blocks[i].Last = Ref.sJump
        · have hjb : ((bs f.Blocks[i].Last).toList == [106, 117, 109, 112]) = true := toList_yes (by rw [bl_bs]; exact hj)
          have HJ := hide hj
          clear hj
          go_wp2_with fail
          go_ret
          exact ⟨true, rfl, ⟨fun _ => ⟨HVO.out, Or.inr HJ.out⟩, fun _ => rfl⟩, HB2.out⟩
        · have hjb : ((bs f.Blocks[i].Last).toList == [106, 117, 109, 112]) = false := toList_no (by rw [bl_bs]; exact hj)
          have HJ := hide hj
          clear hj
          go_wp2_with fail
          go_ret
          refine ⟨false, rfl, ⟨fun h => (by cases h), fun hu => ?_⟩, HB2.out⟩
          rcases hu.2 with h | h
          · exact absurd h HBM.out
          · exact absurd h HJ.out
      · have HBM := hide (hbm.1 rfl)
        clear hbm
        go_wp2_with fail
        go_ret
        exact ⟨true, rfl, ⟨fun _ => ⟨HVO.out, Or.inl HBM.out⟩, fun _ => rfl⟩, HB2.out⟩
end Go.Proofs.YtedkjanogjglkaaDoor.D
