/-
  Small facts on byte strings, numbers and worlds that the walks of this seat share.
-/
import Derived.Test.YtdffpkmabehfbaaDoorProg
import Derived.WalkKit
import Derived.WalkSpells
import Derived.WalkLawsBesides
namespace Go.Proofs.YtdffpkmabehfbaaDoor
open Go.RowKit

/-- The bytes of a string, as a list. -/
def bl (s : ByteArray) : List UInt8 := s.data.toList

theorem bl_length (s : ByteArray) : (bl s).length = s.size := Array.length_toList

theorem bl_get (s : ByteArray) (k : Nat) (h : k < s.size) : (bl s)[k]? = some s[k] := by
  have h' : k < s.data.size := h
  simp only [bl, Array.getElem?_toList, Array.getElem?_eq_getElem h']; rfl

theorem bl_take_succ (s : ByteArray) (k : Nat) (h : k < s.size) : (bl s).take (k + 1) = (bl s).take k ++ [s[k]] := by
  rw [List.take_add_one, bl_get s k h]; rfl

theorem bl_drop (s : ByteArray) (k : Nat) (h : k < s.size) : (bl s).drop k = s[k] :: (bl s).drop (k + 1) := by
  have h' : k < (bl s).length := by rw [bl_length]; exact h
  have := bl_get s k h
  rw [List.getElem?_eq_getElem h'] at this
  rw [List.drop_eq_getElem_cons h', Option.some.inj this]

theorem bl_head (s : ByteArray) (h : 0 < s.size) : (bl s).head? = some s[0] := by
  rw [List.head?_eq_getElem?, bl_get s 0 h]

theorem bl_extract (s : ByteArray) (a b : Nat) : bl (s.extract a b) = ((bl s).drop a).take (b - a) := by
  simp [bl, ByteArray.data_extract, Array.toList_extract]

theorem bl_extract_end (s : ByteArray) (a : Nat) : bl (s.extract a s.size) = (bl s).drop a := by
  rw [bl_extract, List.take_of_length_le]
  simp [bl_length]

theorem bl_inj {s t : ByteArray} (h : bl s = bl t) : s = t := by
  cases s; cases t; simp only [bl] at h; congr; exact Array.toList_inj.1 h

theorem bl_mk (l : List UInt8) : bl ⟨l.toArray⟩ = l := by simp [bl]

/-- A list of bytes, as a string. -/
def bs (l : List UInt8) : ByteArray := ⟨l.toArray⟩

theorem bl_bs (l : List UInt8) : bl (bs l) = l := bl_mk l

theorem bs_bl (s : ByteArray) : bs (bl s) = s := bl_inj (bl_bs _)

theorem bs_size (l : List UInt8) : (bs l).size = l.length := by rw [← bl_length, bl_bs]

theorem bs_extract (s : ByteArray) (a b : Nat) : s.extract a b = bs (((bl s).drop a).take (b - a)) := by
  rw [← bl_extract, bs_bl]

theorem ret_vb {v v' : Value} {b b' : Bool} (h : v = v') (h' : b = b') : Ending.returned (.tuple #[v, .bool b]) = .returned (.tuple #[v', .bool b']) := by rw [h, h']

theorem ret_ib {k : IntKind} {v v' : Int} {b b' : Bool} (h : v = v') (h' : b = b') : Ending.returned (.tuple #[.int k v, .bool b]) = .returned (.tuple #[.int k v', .bool b']) := by rw [h, h']

theorem ret_bool {b b' : Bool} (h : b = b') : Ending.returned (.bool b) = .returned (.bool b') := by rw [h]

/-- The cells of a list of strings. -/
def strs (ll : List (List UInt8)) : List Value := ll.map fun l => .string (bs l)

theorem strs_length (ll : List (List UInt8)) : (strs ll).length = ll.length := by simp [strs]

theorem strs_snoc (ll : List (List UInt8)) (l : List UInt8) : strs (ll ++ [l]) = strs ll ++ [.string (bs l)] := by simp [strs]

theorem toList_no {s : ByteArray} {l : List UInt8} (h : bl s ≠ l) : (s.toList == l) = false := by
  rw [ByteArray.toList_eq]; exact beq_eq_false_iff_ne.2 h

theorem toList_yes {s : ByteArray} {l : List UInt8} (h : bl s = l) : (s.toList == l) = true := by
  rw [ByteArray.toList_eq]; exact beq_iff_eq.2 h

theorem of_bl {s : ByteArray} {l : List UInt8} (h : bl s = l) : s = ⟨l.toArray⟩ := bl_inj (h.trans (bl_mk l).symm)

theorem hide {p : Prop} (h : p) : Hid p := h

theorem ret_int {k : IntKind} {a b : Int} (h : a = b) : Ending.returned (.int k a) = .returned (.int k b) := by rw [h]

theorem infoStr : (Tryd.prog.info? 9).map (fun i => (i.zero, i.size, i.bytes)) = some (some (.string ByteArray.empty), 1, 16) := by kernel_rfl

theorem addr_add (g j : Nat) : (⟨g, 0, none⟩ : Addr).add j = ⟨g, j, none⟩ := by unfold Addr.add; split <;> simp_all

/-- A row that is not empty: where it lies, and its cells. -/
theorem row_open {w : World} {base e size n : Nat} {v : Value} {xs : List Value} (h : w.ownsRow base e size v n xs) (hn : 0 < n) :
    ∃ g cap, v = .slice (some ⟨g, 0, none⟩) n cap ∧ base ≤ g ∧ g < w.heap.size ∧ ∀ j u, xs[j]? = some u → w.cell? ⟨g, j, none⟩ = some u := by
  rcases h.2 with ⟨_, h0⟩ | ⟨g, cap, cur, hv, hb, hg, _⟩
  · omega
  · have hob : v.ownBlock = some g := by rw [hv]; rfl
    refine ⟨g, cap, hv, hb, (h.lt g hob).2, fun j u hu => ?_⟩
    have := h.cells hob j u hu
    rwa [addr_add] at this

theorem strs_get (ll : List (List UInt8)) (j : Nat) (h : j < ll.length) : (strs ll)[j]? = some (.string (bs ll[j])) := by
  simp [strs, h]

/-- What a world keeps is kept: cells and marks below the bound. -/
theorem bcell {B : Nat} {W w1 : World} (hb : Below B W w1) : (∀ b o, b < B → w1.cell? ⟨b, o, none⟩ = W.cell? ⟨b, o, none⟩) ∧ (∀ b o, b < B → w1.frozen? ⟨b, o, none⟩ = W.frozen? ⟨b, o, none⟩) :=
  ⟨fun b o h => hb.cell (p := ⟨b, o, none⟩) h, fun b o h => hb.frozen (p := ⟨b, o, none⟩) h⟩

theorem blk_cell {w : World} {b : Nat} {C : Array Value} {T : TypeId} (h : w.heap[b]? = some (.cells C T)) (o : Nat) (v : Value) (hv : C[o]? = some v) : w.cell? ⟨b, o, none⟩ = some v := by
  simp [World.cell?, h, hv]

theorem blk_froz {w : World} {b : Nat} {C : Array Value} {T : TypeId} (h : w.heap[b]? = some (.cells C T)) (o : Nat) : w.frozen? ⟨b, o, none⟩ = false := by
  simp [World.frozen?, h]

/-- A block of four cells: its cells, none of them frozen. -/
theorem blk4 {w : World} {b : Nat} {c0 c1 c2 c3 : Value} {T : TypeId} (h : w.heap[b]? = some (.cells #[c0, c1, c2, c3] T)) :
    w.cell? ⟨b, 0, none⟩ = some c0 ∧ w.cell? ⟨b, 1, none⟩ = some c1 ∧ w.cell? ⟨b, 2, none⟩ = some c2 ∧ w.cell? ⟨b, 3, none⟩ = some c3 ∧
    w.frozen? ⟨b, 0, none⟩ = false ∧ w.frozen? ⟨b, 1, none⟩ = false ∧ w.frozen? ⟨b, 2, none⟩ = false ∧ w.frozen? ⟨b, 3, none⟩ = false :=
  ⟨blk_cell h 0 _ rfl, blk_cell h 1 _ rfl, blk_cell h 2 _ rfl, blk_cell h 3 _ rfl, blk_froz h 0, blk_froz h 1, blk_froz h 2, blk_froz h 3⟩

/-- A block that the call has made itself, behind a call that keeps it. -/
theorem kept_new {w w1 : World} {o : Obj} (h : Below (w.alloc o).heap.size (w.alloc o) w1) : w1.heap[w.heap.size]? = some o := by
  rw [h.block w.heap.size (by simp)]
  exact heap_alloc_new w o

theorem below_of_new {w w1 : World} {o : Obj} (h : Below (w.alloc o).heap.size (w.alloc o) w1) : Below w.heap.size w w1 :=
  ((Below.refl _ _).alloc (Nat.le_refl _) o).trans (h.mono (by simp))

theorem below_al {a w : World} (h : Below a.heap.size a w) (o : Obj) : Below a.heap.size a (w.alloc o) := h.alloc h.size o

/-- Rows of another element type lie elsewhere. -/
theorem own_ne {w : World} {base e size n : Nat} {v : Value} {xs : List Value} (h : w.ownsRow base e size v n xs) {b : Nat} {C : Array Value} {T : TypeId} {z : Nat × Nat}
    (hb : w.heap[b]? = some (.cells C T z)) (hT : T ≠ e) : some b ≠ v.ownBlock := by
  intro hc
  rcases h.2 with ⟨rfl, _⟩ | ⟨g, cap, cur, rfl, _, hg, _⟩
  · simp [Value.ownBlock] at hc
  · simp only [Value.ownBlock, Option.some.injEq] at hc
    subst hc
    rw [hb] at hg
    simp only [Option.some.injEq, Obj.cells.injEq] at hg
    exact hT hg.2.1

theorem lt_of_block {w : World} {b : Nat} {o : Obj} (hb : w.heap[b]? = some o) : b < w.heap.size := (Array.getElem?_eq_some_iff.1 hb).1

/-- A block stays while a row of another element type grows. -/
theorem stay_grown {w w3 : World} {base e size n : Nat} {v : Value} {xs : List Value} (h : w.ownsRow base e size v n xs) (hg : w.grownBy w3 v.ownBlock) {b : Nat} {C : Array Value} {T : TypeId} {z : Nat × Nat}
    (hb : w.heap[b]? = some (.cells C T z)) (hT : T ≠ e) : w3.heap[b]? = some (.cells C T z) := by
  rw [hg.block b (lt_of_block hb) (own_ne h hb hT)]; exact hb

theorem stay_alloc {w : World} {b : Nat} {o p : Obj} (hb : w.heap[b]? = some o) : (w.alloc p).heap[b]? = some o := by
  rw [Below.heap_alloc w p b (lt_of_block hb)]; exact hb

theorem stay_set {w : World} {b : Nat} {o : Obj} {a : Addr} {v : Value} (hb : w.heap[b]? = some o) (hne : b ≠ a.block) : (w.setCell a v).heap[b]? = some o := by
  rw [Below.heap_setCell w a v b hne]; exact hb

theorem set_block {w : World} {b o : Nat} {C : Array Value} {T : TypeId} {z : Nat × Nat} {v : Value} (hb : w.heap[b]? = some (.cells C T z)) :
    (w.setCell ⟨b, o, none⟩ v).heap[b]? = some (.cells (C.setIfInBounds o v) T z) := by
  simp [World.setCell, Array.getElem?_modify, hb]

/-- A row stays while another block is written. -/
theorem own_set {w : World} {base e size n : Nat} {v : Value} {xs : List Value} (h : w.ownsRow base e size v n xs) {b : Nat} {C : Array Value} {T : TypeId} {z : Nat × Nat} {o : Nat} {u : Value}
    (hb : w.heap[b]? = some (.cells C T z)) (hT : T ≠ e) : (w.setCell ⟨b, o, none⟩ u).ownsRow base e size v n xs := by
  refine ⟨h.1, ?_⟩
  rcases h.2 with h0 | ⟨g, cap, cur, hv, hbg, hg, r⟩
  · exact Or.inl h0
  · refine Or.inr ⟨g, cap, cur, hv, hbg, stay_set hg ?_, r⟩
    rintro rfl
    exact own_ne h hb hT (by rw [hv]; rfl)

/-- A row stays while a row of another element type grows. -/
theorem own_grown {w w3 : World} {base base' e e' size size' n n' : Nat} {v v' : Value} {xs xs' : List Value} (h : w.ownsRow base e size v n xs) (h' : w.ownsRow base' e' size' v' n' xs') (hne : e' ≠ e)
    (hg : w.grownBy w3 v.ownBlock) : w3.ownsRow base' e' size' v' n' xs' := by
  refine ⟨h'.1, ?_⟩
  rcases h'.2 with h0 | ⟨g, cap, cur, hv, hbg, hgg, r⟩
  · exact Or.inl h0
  · exact Or.inr ⟨g, cap, cur, hv, hbg, stay_grown h hg hgg hne, r⟩

/-- A row stays where all blocks below the size stay. -/
theorem own_below {w w3 : World} {base e size n : Nat} {v : Value} {xs : List Value} (h : w.ownsRow base e size v n xs) (hb : Below w.heap.size w w3) : w3.ownsRow base e size v n xs := by
  refine ⟨h.1, ?_⟩
  rcases h.2 with h0 | ⟨g, cap, cur, hv, hbg, hgg, r⟩
  · exact Or.inl h0
  · exact Or.inr ⟨g, cap, cur, hv, hbg, by rw [hb.block g (lt_of_block hgg)]; exact hgg, r⟩

theorem own_base {w : World} {base base' e size n : Nat} {v : Value} {xs : List Value} (h : w.ownsRow base e size v n xs) (hb : base' ≤ base) : w.ownsRow base' e size v n xs := by
  refine ⟨h.1, ?_⟩
  rcases h.2 with h0 | ⟨g, cap, cur, hv, hbg, r⟩
  · exact Or.inl h0
  · exact Or.inr ⟨g, cap, cur, hv, Nat.le_trans hb hbg, r⟩

/-- The cells of numbers. -/
def ints (l : List Int) : List Value := l.map fun n => .int .i64 n

theorem ints_length (l : List Int) : (ints l).length = l.length := by simp [ints]

theorem ints_snoc (l : List Int) (n : Int) : ints (l ++ [n]) = ints l ++ [.int .i64 n] := by simp [ints]

theorem ints_get (l : List Int) (j : Nat) (h : j < l.length) : (ints l)[j]? = some (.int .i64 l[j]) := by simp [ints, h]

theorem infoInt : (Tryd.prog.info? 3).map (fun i => (i.zero, i.size, i.bytes)) = some (some (.int .i64 0), 1, 8) := by kernel_rfl

/-- A number as a byte. -/
def byteOf (x : Int) : UInt8 := UInt8.ofNat x.toNat

/-- 'string([]byte{x})': the new block holds the byte. -/
theorem conv1 (w : World) (x : Int) : (convert 48 9 (.slice (some ⟨w.heap.size, 0, none⟩) 1 1)).run Tryd.prog (w.alloc (.cells #[.int .u8 x] 5)) =
    .ok (.string (bs [byteOf x])) (w.alloc (.cells #[.int .u8 x] 5)) := by
  have h := run_convert_bytes_arg (P := Tryd.prog) (w.alloc (.cells #[.int .u8 x] 5)) 48 5 Tryd.underlying48 Tryd.underlying5 w.heap.size 0 1 1 [x] rfl
    (fun i hi => by
      have : i = 0 := by omega
      subst this
      simp) 9 Tryd.underlying9
  rw [h]
  rfl

theorem bs_append (a b : List UInt8) : bs a ++ bs b = bs (a ++ b) := by
  apply bl_inj
  simp [bl, bs, ByteArray.data_append]

end Go.Proofs.YtdffpkmabehfbaaDoor
