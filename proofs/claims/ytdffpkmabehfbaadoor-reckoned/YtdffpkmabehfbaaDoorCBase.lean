/-
  A reader in memory, and what keeps it.
-/
import Derived.Test.YtdffpkmabehfbaaDoorBase3
import Derived.Test.YtdffpkmabehfbaaDoorCPlain
import Derived.Laws.AppendOwn
namespace Go.Proofs.YtdffpkmabehfbaaDoor
open Go.RowKit

/-- A reader: what is ahead of it, its line, what a text is that can't be read; X: what lies behind these in its block. -/
def Rd (w : World) (rb : Nat) (T : TypeId) (s : List UInt8) (l why : Int) (X : List Value) : Prop :=
  w.heap[rb]? = some (.cells (List.toArray (.string (bs s) :: .int .i64 l :: .int .i64 why :: X)) T)

theorem Rd.c0 {w : World} {rb : Nat} {T : TypeId} {s : List UInt8} {l why : Int} {X : List Value} (h : Rd w rb T s l why X) : w.cell? ⟨rb, 0, none⟩ = some (.string (bs s)) := blk_cell h 0 _ (by simp)
theorem Rd.c1 {w : World} {rb : Nat} {T : TypeId} {s : List UInt8} {l why : Int} {X : List Value} (h : Rd w rb T s l why X) : w.cell? ⟨rb, 1, none⟩ = some (.int .i64 l) := blk_cell h 1 _ (by simp)
theorem Rd.c2 {w : World} {rb : Nat} {T : TypeId} {s : List UInt8} {l why : Int} {X : List Value} (h : Rd w rb T s l why X) : w.cell? ⟨rb, 2, none⟩ = some (.int .i64 why) := blk_cell h 2 _ (by simp)
theorem Rd.fz {w : World} {rb : Nat} {T : TypeId} {s : List UInt8} {l why : Int} {X : List Value} (h : Rd w rb T s l why X) (o : Nat) : w.frozen? ⟨rb, o, none⟩ = false := blk_froz h o
theorem Rd.c3 {w : World} {rb : Nat} {T : TypeId} {s : List UInt8} {l why : Int} {a : Value} {X : List Value} (h : Rd w rb T s l why (a :: X)) : w.cell? ⟨rb, 3, none⟩ = some a := blk_cell h 3 _ (by simp)

theorem Rd.set0 {w : World} {rb : Nat} {T : TypeId} {s : List UInt8} {l why : Int} {X : List Value} (h : Rd w rb T s l why X) (s' : List UInt8) : Rd (w.setCell ⟨rb, 0, none⟩ (.string (bs s'))) rb T s' l why X := by
  unfold Rd; rw [set_block h]; simp

theorem Rd.set1 {w : World} {rb : Nat} {T : TypeId} {s : List UInt8} {l why : Int} {X : List Value} (h : Rd w rb T s l why X) (l' : Int) : Rd (w.setCell ⟨rb, 1, none⟩ (.int .i64 l')) rb T s l' why X := by
  unfold Rd; rw [set_block h]; simp

theorem Rd.set3 {w : World} {rb : Nat} {T : TypeId} {s : List UInt8} {l why : Int} {a : Value} {X : List Value} (h : Rd w rb T s l why (a :: X)) (a' : Value) : Rd (w.setCell ⟨rb, 3, none⟩ a') rb T s l why (a' :: X) := by
  unfold Rd; rw [set_block h]; simp

theorem grown_set (w : World) (rb o : Nat) (v : Value) : w.grownBy (w.setCell ⟨rb, o, none⟩ v) (some rb) :=
  ⟨rfl, rfl, rfl, by simp [World.setCell], fun k _ h => Below.heap_setCell w ⟨rb, o, none⟩ v k (fun e => h (by rw [e]))⟩

theorem grown_trans {a b c : World} {r : Option Nat} (h : a.grownBy b r) (k : b.grownBy c r) : a.grownBy c r :=
  ⟨k.os.trans h.os, k.tape.trans h.tape, k.output.trans h.output, Nat.le_trans h.size k.size, fun i hi hn => (k.block i (Nat.lt_of_lt_of_le hi h.size) hn).trans (h.block i hi hn)⟩

theorem grown_refl (w : World) (r : Option Nat) : w.grownBy w r := ⟨rfl, rfl, rfl, Nat.le_refl _, fun _ _ _ => rfl⟩

theorem grown_below {a b : World} {r : Option Nat} (h : Below a.heap.size a b) : a.grownBy b r := ⟨h.os, h.tape, h.output, h.size, fun k hk _ => h.block k hk⟩

/-- A row stays while the reader's block turns: it is of another type. -/
theorem own_kept {w w3 : World} {rb : Nat} {C : Array Value} {T : TypeId} {z : Nat × Nat} (hb : w.heap[rb]? = some (.cells C T z)) (hg : w.grownBy w3 (some rb))
    {base e size n : Nat} {v : Value} {xs : List Value} (h : w.ownsRow base e size v n xs) (hT : T ≠ e) : w3.ownsRow base e size v n xs := by
  refine ⟨h.1, ?_⟩
  rcases h.2 with h0 | ⟨g, cap, cur, hv, hbg, hgg, r⟩
  · exact Or.inl h0
  · refine Or.inr ⟨g, cap, cur, hv, hbg, ?_, r⟩
    rw [hg.block g (lt_of_block hgg) ?_]; exact hgg
    rintro hc
    simp only [Option.some.injEq] at hc
    subst hc
    rw [hb] at hgg
    simp only [Option.some.injEq, Obj.cells.injEq] at hgg
    exact hT hgg.2.1

theorem grown_app {w w2 w3 : World} {r : Option Nat} {o : Obj} {b : Option Nat} (h : w.grownBy w2 r) (hg : (w2.alloc o).grownBy w3 b) (hb : ∀ j, b = some j → w.heap.size ≤ j) : w.grownBy w3 r := by
  refine ⟨hg.os.trans h.os, hg.tape.trans h.tape, hg.output.trans h.output, ?_, fun k hk hn => ?_⟩
  · have := hg.size
    have := h.size
    simp at *
    omega
  · have h2 := h.size
    rw [hg.block k (by simp; omega) (fun e => by have := hb k e.symm; omega), Below.heap_alloc w2 o k (by omega)]
    exact h.block k hk hn

theorem grown_alloc (w : World) (r : Option Nat) (o : Obj) : w.grownBy (w.alloc o) r :=
  ⟨rfl, rfl, rfl, by simp, fun k hk _ => Below.heap_alloc w o k hk⟩

theorem grown_new {w w2 : World} {r : Option Nat} (h : w.grownBy w2 r) {b : Nat} (hb : w.heap.size ≤ b) (o : Nat) (v : Value) : w.grownBy (w2.setCell ⟨b, o, none⟩ v) r :=
  ⟨h.os, h.tape, h.output, by rw [size_set]; exact h.size, fun k hk hn => by rw [Below.heap_setCell w2 ⟨b, o, none⟩ v k (fun e => by simp at e; omega)]; exact h.block k hk hn⟩

theorem new_kept {w w2 : World} {rb : Nat} {o : Obj} (h : (w.alloc o).grownBy w2 (some rb)) (hrb : rb < w.heap.size) : w2.heap[w.heap.size]? = some o := by
  rw [h.block w.heap.size (by simp) (fun e => by simp at e; omega)]
  exact heap_alloc_new w o

/-- It gave up: by a panic with a fault that says why; where: some line. -/
def Fails (w : World) (rb : Nat) (why : Int) (e : Ending) (w' : World) : Prop :=
  (∃ l : Int, e = .panicked [{ v := .iface 50 (.agg #[.int .i64 why, .int .i64 l]), recovered := false }]) ∧ w.grownBy w' (some rb)

end Go.Proofs.YtdffpkmabehfbaaDoor
