/-
  Parts of the proof: Base, RShelf, RBuild, Plain, Base2, Base3, CPlain, CBase, CScan, CScan2, CScan3.
-/
import Derived.Test.YtedkjanogjglkaaGreatDoorProg
import Derived.WalkKit
import Derived.WalkSpells
import Derived.WalkLawsBesides
import Derived.Shelf.Strings.Builder1
import Derived.Shelf.Strings.BuilderF
import Derived.Shelf.Strings.BuilderK
import Derived.Shelf.Strconv.Itoa0
import Derived.Shelf.Strconv.Itoa1
import Derived.Shelf.LaysM
import Derived.Shelf.Strconv.Itoa2
import Derived.Shelf.Strconv.Itoa3
import Derived.Laws.AppendOwn
set_option maxRecDepth 100000
set_option maxHeartbeats 2000000
namespace Go.Proofs.YtedkjanogjglkaaGreatDoor
theorem zz : (∀ {α : Type} {l : List α} {i : Nat} (h : i < l.toArray.size), l.toArray[i] = l[i]'(by simpa using h)) /\ (∀ {α : Type} {a : α} {l : List α} {h : 0 < (a :: l).length}, (a :: l)[0] = a) /\ (∀ {α : Type} {a : α} {l : List α} {i : Nat} (h : i + 1 < (a :: l).length), (a :: l)[i + 1] = l[i]'(Nat.lt_of_succ_lt_succ h)) /\ (∀ {α : Type} {l : List α} {i : Nat} {a : α}, l.toArray.setIfInBounds i a = (l.set i a).toArray) /\ (∀ {α : Type} {a b : α} {l : List α}, (a :: l).set 0 b = b :: l) /\ ∀ {α : Type} {a b : α} {l : List α} {n : Nat}, (a :: l).set (n + 1) b = a :: l.set n b :=
 ⟨fun _ => rfl, rfl, fun _ => rfl, List.setIfInBounds_toArray _ _ _, rfl, rfl⟩
open Go.RowKit
def bl (s : ByteArray) : List UInt8 := s.data.toList
theorem bl_length (s : ByteArray) : (bl s).length = s.size := Array.length_toList
theorem bl_extract (s : ByteArray) (a b : Nat) : bl (s.extract a b) = ((bl s).drop a).take (b - a) := by
 simp [bl, ByteArray.data_extract, Array.toList_extract]
theorem bl_extract_end (s : ByteArray) (a : Nat) : bl (s.extract a s.size) = (bl s).drop a := by
 rw [bl_extract, List.take_of_length_le]
 simp [bl_length]
theorem bl_inj {s t : ByteArray} (h : bl s = bl t) : s = t := by
 cases s; cases t; simp only [bl] at h; congr; exact Array.toList_inj.1 h
theorem bl_mk (l : List UInt8) : bl ⟨l.toArray⟩ = l := by simp [bl]
def bs (l : List UInt8) : ByteArray := ⟨l.toArray⟩
theorem bl_bs (l : List UInt8) : bl (bs l) = l := bl_mk l
theorem bs_bl (s : ByteArray) : bs (bl s) = s := bl_inj (bl_bs _)
theorem bs_size (l : List UInt8) : (bs l).size = l.length := by rw [<- bl_length, bl_bs]
theorem bs_extract (s : ByteArray) (a b : Nat) : s.extract a b = bs (((bl s).drop a).take (b - a)) := by
 rw [<- bl_extract, bs_bl]
theorem ret_bool {b b' : Bool} (h : b = b') : Ending.returned (.bool b) = .returned (.bool b') := by rw [h]
theorem toList_no {s : ByteArray} {l : List UInt8} (h : bl s ≠ l) : (s.toList == l) = false := by
 rw [ByteArray.toList_eq]; exact beq_eq_false_iff_ne.2 h
theorem toList_yes {s : ByteArray} {l : List UInt8} (h : bl s = l) : (s.toList == l) = true := by
 rw [ByteArray.toList_eq]; exact beq_iff_eq.2 h
theorem hide {p : Prop} (h : p) : Hid p := h
theorem ret_int {k : IntKind} {a b : Int} (h : a = b) : Ending.returned (.int k a) = .returned (.int k b) := by rw [h]
theorem addr_add (g j : Nat) : (⟨g, 0, none⟩ : Addr).add j = ⟨g, j, none⟩ := by unfold Addr.add; split <;> simp_all
theorem row_open {w : World} {base e size n : Nat} {v : Value} {xs : List Value} (h : w.ownsRow base e size v n xs) (hn : 0 < n) :
  ∃ g cap, v = .slice (some ⟨g, 0, none⟩) n cap /\ base <= g /\ g < w.heap.size /\ ∀ j u, xs[j]? = some u -> w.cell? ⟨g, j, none⟩ = some u := by
 rcases h.2 with ⟨_, h0⟩ | ⟨g, cap, cur, hv, hb, hg, _⟩
 ·omega
 ·have hob : v.ownBlock = some g := by rw [hv]; rfl
  refine ⟨g, cap, hv, hb, (h.lt g hob).2, fun j u hu => ?_⟩
  have := h.cells hob j u hu
  rwa [addr_add] at this
theorem bcell {B : Nat} {W w1 : World} (hb : Below B W w1) : (∀ b o, b < B -> w1.cell? ⟨b, o, none⟩ = W.cell? ⟨b, o, none⟩) /\ (∀ b o, b < B -> w1.frozen? ⟨b, o, none⟩ = W.frozen? ⟨b, o, none⟩) :=
 ⟨fun b o h => hb.cell (p := ⟨b, o, none⟩) h, fun b o h => hb.frozen (p := ⟨b, o, none⟩) h⟩
theorem blk_cell {w : World} {b : Nat} {C : Array Value} {T : TypeId} (h : w.heap[b]? = some (.cells C T)) (o : Nat) (v : Value) (hv : C[o]? = some v) : w.cell? ⟨b, o, none⟩ = some v := by
 simp [World.cell?, h, hv]
theorem blk_froz {w : World} {b : Nat} {C : Array Value} {T : TypeId} (h : w.heap[b]? = some (.cells C T)) (o : Nat) : w.frozen? ⟨b, o, none⟩ = false := by
 simp [World.frozen?, h]
theorem kept_new {w w1 : World} {o : Obj} (h : Below (w.alloc o).heap.size (w.alloc o) w1) : w1.heap[w.heap.size]? = some o := by
 rw [h.block w.heap.size (by simp)]
 exact heap_alloc_new w o
theorem below_al {a w : World} (h : Below a.heap.size a w) (o : Obj) : Below a.heap.size a (w.alloc o) := h.alloc h.size o
theorem own_ne {w : World} {base e size n : Nat} {v : Value} {xs : List Value} (h : w.ownsRow base e size v n xs) {b : Nat} {C : Array Value} {T : TypeId} {z : Nat × Nat}
  (hb : w.heap[b]? = some (.cells C T z)) (hT : T ≠ e) : some b ≠ v.ownBlock := by
 intro hc
 rcases h.2 with ⟨rfl, _⟩ | ⟨g, cap, cur, rfl, _, hg, _⟩
 ·simp [Value.ownBlock] at hc
 ·simp only [Value.ownBlock, Option.some.injEq] at hc
  subst hc
  rw [hb] at hg
  simp only [Option.some.injEq, Obj.cells.injEq] at hg
  exact hT hg.2.1
theorem lt_of_block {w : World} {b : Nat} {o : Obj} (hb : w.heap[b]? = some o) : b < w.heap.size := (Array.getElem?_eq_some_iff.1 hb).1
theorem stay_grown {w w3 : World} {base e size n : Nat} {v : Value} {xs : List Value} (h : w.ownsRow base e size v n xs) (hg : w.grownBy w3 v.ownBlock) {b : Nat} {C : Array Value} {T : TypeId} {z : Nat × Nat}
  (hb : w.heap[b]? = some (.cells C T z)) (hT : T ≠ e) : w3.heap[b]? = some (.cells C T z) := by
 rw [hg.block b (lt_of_block hb) (own_ne h hb hT)]; exact hb
theorem stay_alloc {w : World} {b : Nat} {o p : Obj} (hb : w.heap[b]? = some o) : (w.alloc p).heap[b]? = some o := by
 rw [Below.heap_alloc w p b (lt_of_block hb)]; exact hb
theorem stay_set {w : World} {b : Nat} {o : Obj} {a : Addr} {v : Value} (hb : w.heap[b]? = some o) (hne : b ≠ a.block) : (w.setCell a v).heap[b]? = some o := by
 rw [Below.heap_setCell w a v b hne]; exact hb
theorem set_block {w : World} {b o : Nat} {C : Array Value} {T : TypeId} {z : Nat × Nat} {v : Value} (hb : w.heap[b]? = some (.cells C T z)) :
  (w.setCell ⟨b, o, none⟩ v).heap[b]? = some (.cells (C.setIfInBounds o v) T z) := by
 simp [World.setCell, Array.getElem?_modify, hb]
theorem own_set {w : World} {base e size n : Nat} {v : Value} {xs : List Value} (h : w.ownsRow base e size v n xs) {b : Nat} {C : Array Value} {T : TypeId} {z : Nat × Nat} {o : Nat} {u : Value}
  (hb : w.heap[b]? = some (.cells C T z)) (hT : T ≠ e) : (w.setCell ⟨b, o, none⟩ u).ownsRow base e size v n xs := by
 refine ⟨h.1, ?_⟩
 rcases h.2 with h0 | ⟨g, cap, cur, hv, hbg, hg, r⟩
 ·exact Or.inl h0
 ·refine Or.inr ⟨g, cap, cur, hv, hbg, stay_set hg ?_, r⟩
  rintro rfl
  exact own_ne h hb hT (by rw [hv]; rfl)
theorem own_grown {w w3 : World} {base base' e e' size size' n n' : Nat} {v v' : Value} {xs xs' : List Value} (h : w.ownsRow base e size v n xs) (h' : w.ownsRow base' e' size' v' n' xs') (hne : e' ≠ e)
  (hg : w.grownBy w3 v.ownBlock) : w3.ownsRow base' e' size' v' n' xs' := by
 refine ⟨h'.1, ?_⟩
 rcases h'.2 with h0 | ⟨g, cap, cur, hv, hbg, hgg, r⟩
 ·exact Or.inl h0
 ·exact Or.inr ⟨g, cap, cur, hv, hbg, stay_grown h hg hgg hne, r⟩
theorem own_below {w w3 : World} {base e size n : Nat} {v : Value} {xs : List Value} (h : w.ownsRow base e size v n xs) (hb : Below w.heap.size w w3) : w3.ownsRow base e size v n xs := by
 refine ⟨h.1, ?_⟩
 rcases h.2 with h0 | ⟨g, cap, cur, hv, hbg, hgg, r⟩
 ·exact Or.inl h0
 ·exact Or.inr ⟨g, cap, cur, hv, hbg, by rw [hb.block g (lt_of_block hgg)]; exact hgg, r⟩
theorem own_base {w : World} {base base' e size n : Nat} {v : Value} {xs : List Value} (h : w.ownsRow base e size v n xs) (hb : base' <= base) : w.ownsRow base' e size v n xs := by
 refine ⟨h.1, ?_⟩
 rcases h.2 with h0 | ⟨g, cap, cur, hv, hbg, r⟩
 ·exact Or.inl h0
 ·exact Or.inr ⟨g, cap, cur, hv, Nat.le_trans hb hbg, r⟩
def ints (l : List Int) : List Value := l.map fun n => .int .i64 n
theorem ints_snoc (l : List Int) (n : Int) : ints (l ++ [n]) = ints l ++ [.int .i64 n] := by simp [ints]
theorem ints_get (l : List Int) (j : Nat) (h : j < l.length) : (ints l)[j]? = some (.int .i64 l[j]) := by simp [ints, h]
theorem infoInt : (Tryz.prog.info? 3).map (fun i => (i.zero, i.size, i.bytes)) = some (some (.int .i64 0), 1, 8) := by kernel_rfl
def byteOf (x : Int) : UInt8 := UInt8.ofNat x.toNat
theorem conv1 (w : World) (x : Int) : (convert 106 9 (.slice (some ⟨w.heap.size, 0, none⟩) 1 1)).run Tryz.prog (w.alloc (.cells #[.int .u8 x] 5)) =
  .ok (.string (bs [byteOf x])) (w.alloc (.cells #[.int .u8 x] 5)) := by
 have h := run_convert_bytes_arg (P := Tryz.prog) (w.alloc (.cells #[.int .u8 x] 5)) 106 5 Tryz.underlying106 Tryz.underlying5 w.heap.size 0 1 1 [x] rfl
  (fun i hi => by
    have : i = 0 := by omega
    subst this
    simp) 9 Tryz.underlying9
 rw [h]
 rfl
theorem bs_append (a b : List UInt8) : bs a ++ bs b = bs (a ++ b) := by
 apply bl_inj
 simp [bl, bs, ByteArray.data_append]
end Go.Proofs.YtedkjanogjglkaaGreatDoor
namespace Go.Proofs.YtedkjanogjglkaaGreatDoor
open Go.Shelf
def sh169_ren : Go.Shelf.Ren := ⟨fun | 169 => 83 | n => n, fun | 70 => 153 | 9 => 9 | 0 => 0 | 72 => 155 | 37 => 106 | 127 => 245 | 3 => 3 | 5 => 5 | n => n, fun | n => n⟩
theorem sh169 : Go.Proofs.Lays.n169 Tryz.prog sh169_ren := {
 mixed := by kernel_rfl
 f169 := Tryz.func83.trans (congrArg some (by kernel_rfl))
 t0 := Tryz.underlying0
 a0 := Tryz.isAgg0
 z0 := Tryz.sizeOf0
 v0 := Tryz.zeroValue0
 t3 := Tryz.underlying3
 a3 := Tryz.isAgg3
 z3 := Tryz.sizeOf3
 v3 := Tryz.zeroValue3
 t9 := Tryz.underlying9
 a9 := Tryz.isAgg9
 z9 := Tryz.sizeOf9
 v9 := Tryz.zeroValue9
 t37 := Tryz.underlying106
 a37 := Tryz.isAgg106
 z37 := Tryz.sizeOf106
 v37 := Tryz.zeroValue106
 t70 := Tryz.underlying153
 a70 := Tryz.isAgg153
 z70 := Tryz.sizeOf153
 v70 := Tryz.zeroValue153
 t72 := Tryz.underlying155
 a72 := Tryz.isAgg155
 z72 := Tryz.sizeOf155
 v72 := Tryz.zeroValue155
 t127 := Tryz.underlying245
 a127 := Tryz.isAgg245
 z127 := Tryz.sizeOf245
 v127 := Tryz.zeroValue245 }
theorem shExtra169 : Builder.Extra Tryz.prog sh169_ren := {
 sizeBuilder := by kernel_rfl
 liesBuilder := by kernel_rfl
 t5 := Tryz.underlying5
 a5 := Tryz.isAgg5
 z5 := Tryz.sizeOf5
 v5 := Tryz.zeroValue5
 infoByte := by kernel_rfl
 cellsByte := by kernel_rfl
 sizeByte := by kernel_rfl
 neB5 := by decide }
open Go.RowKit in
theorem builderString_any (B b : Nat) (l : List UInt8) (w : World) (h : Lib.IsBuilderF 155 5 B b (Lib.byteCells l) w) (hBw : B <= w.heap.size) :
  Calls Tryz.prog 83 #[.pointer (some ⟨b, 0, none⟩)] w fun e w' => e = .returned (.string ⟨l.toArray⟩) /\ (Lib.IsBuilderF 155 5 B b (Lib.byteCells l) w' /\ Below B w w' /\ Lib.OthersKept 5 (some b) w w') := Any.Builder_String_any_k sh169 shExtra169 B b l w h hBw
def shM171_ren : Go.Shelf.Ren := ⟨fun | 171 => 132 | 243 => 178 | 246 => 218 | 283 => 229 | 284 => 230 | 285 => 231 | 286 => 232 | 129 => 234 | 317 => 233 | 318 => 235 | 319 => 236 | 320 => 237 | 337 => 238 | 338 => 239 | n => n, fun | 3 => 3 | 9 => 9 | 2 => 2 | 4 => 4 | 171 => 345 | 0 => 0 | 53 => 346 | 37 => 106 | 5 => 5 | 173 => 349 | 212 => 352 | 51 => 337 | 20 => 20 | 213 => 353 | 46 => 307 | 232 => 356 | 233 => 357 | n => n, fun | 17 => 2 | 18 => 3 | 19 => 4 | n => n⟩
theorem shM171 : Go.Proofs.LaysM.n171 Tryz.prog shM171_ren := {
 mixed := by kernel_rfl
 f129 := Tryz.func234.trans (congrArg some (by kernel_rfl))
 f171 := Tryz.func132.trans (congrArg some (by kernel_rfl))
 f243 := Tryz.func178.trans (congrArg some (by kernel_rfl))
 f246 := Tryz.func218.trans (congrArg some (by kernel_rfl))
 f283 := Tryz.func229.trans (congrArg some (by kernel_rfl))
 f284 := Tryz.func230.trans (congrArg some (by kernel_rfl))
 f285 := Tryz.func231.trans (congrArg some (by kernel_rfl))
 f286 := Tryz.func232.trans (congrArg some (by kernel_rfl))
 f317 := Tryz.func233.trans (congrArg some (by kernel_rfl))
 f318 := Tryz.func235.trans (congrArg some (by kernel_rfl))
 f319 := Tryz.func236.trans (congrArg some (by kernel_rfl))
 f320 := Tryz.func237.trans (congrArg some (by kernel_rfl))
 f337 := Tryz.func238.trans (congrArg some (by kernel_rfl))
 f338 := Tryz.func239.trans (congrArg some (by kernel_rfl))
 t0 := Tryz.underlying0
 a0 := Tryz.isAgg0
 z0 := Tryz.sizeOf0
 v0 := Tryz.zeroValue0
 t2 := Tryz.underlying2
 a2 := Tryz.isAgg2
 z2 := Tryz.sizeOf2
 v2 := Tryz.zeroValue2
 t3 := Tryz.underlying3
 a3 := Tryz.isAgg3
 z3 := Tryz.sizeOf3
 v3 := Tryz.zeroValue3
 t4 := Tryz.underlying4
 a4 := Tryz.isAgg4
 z4 := Tryz.sizeOf4
 v4 := Tryz.zeroValue4
 t5 := Tryz.underlying5
 a5 := Tryz.isAgg5
 z5 := Tryz.sizeOf5
 v5 := Tryz.zeroValue5
 t9 := Tryz.underlying9
 a9 := Tryz.isAgg9
 z9 := Tryz.sizeOf9
 v9 := Tryz.zeroValue9
 t20 := Tryz.underlying20
 a20 := Tryz.isAgg20
 z20 := Tryz.sizeOf20
 v20 := Tryz.zeroValue20
 t37 := Tryz.underlying106
 a37 := Tryz.isAgg106
 z37 := Tryz.sizeOf106
 v37 := Tryz.zeroValue106
 t46 := Tryz.underlying307
 a46 := Tryz.isAgg307
 z46 := Tryz.sizeOf307
 v46 := Tryz.zeroValue307
 t51 := Tryz.underlying337
 a51 := Tryz.isAgg337
 z51 := Tryz.sizeOf337
 v51 := Tryz.zeroValue337
 t53 := Tryz.underlying346
 a53 := Tryz.isAgg346
 z53 := Tryz.sizeOf346
 v53 := Tryz.zeroValue346
 t171 := Tryz.underlying345
 a171 := Tryz.isAgg345
 z171 := Tryz.sizeOf345
 v171 := Tryz.zeroValue345
 t173 := Tryz.underlying349
 a173 := Tryz.isAgg349
 z173 := Tryz.sizeOf349
 v173 := Tryz.zeroValue349
 t212 := Tryz.underlying352
 a212 := Tryz.isAgg352
 z212 := Tryz.sizeOf352
 v212 := Tryz.zeroValue352
 t213 := Tryz.underlying353
 a213 := Tryz.isAgg353
 z213 := Tryz.sizeOf353
 t232 := Tryz.underlying356
 a232 := Tryz.isAgg356
 z232 := Tryz.sizeOf356
 v232 := Tryz.zeroValue356
 t233 := Tryz.underlying357
 a233 := Tryz.isAgg357
 z233 := Tryz.sizeOf357
 v233 := Tryz.zeroValue357
 g17 := by kernel_rfl
 g18 := by kernel_rfl
 g19 := by kernel_rfl
 i0 := by kernel_rfl
 i2 := by kernel_rfl
 i3 := by kernel_rfl
 i4 := by kernel_rfl
 i5 := by kernel_rfl
 i9 := by kernel_rfl
 i20 := by kernel_rfl
 i37 := by kernel_rfl
 i46 := by kernel_rfl
 i51 := by kernel_rfl
 i53 := by kernel_rfl
 i171 := by kernel_rfl
 i173 := by kernel_rfl
 i212 := by kernel_rfl
 i232 := by kernel_rfl
 i233 := by kernel_rfl
 m17 := by kernel_rfl
 m18 := by kernel_rfl
 m19 := by kernel_rfl }
open Go.RowKit Go.Sort Go.Lib in
theorem itoa_lib (n : Int) (h0 : -9223372036854775808 <= n) (h1 : n <= 9223372036854775807) (w : World) (htab : Lib.TabIs Tryz.prog w "internal/strconv.uint64pow10" .u64 Lib.pow10Tab) :
  Calls Tryz.prog 132 #[.int .i64 n] w fun e w' => e = .returned (.string ⟨(Lib.itoa n).toArray⟩) /\ ∃ k os, w' = grow (w.drewN k) os := Any.strconv_Itoa shM171 n h0 h1 w htab
end Go.Proofs.YtedkjanogjglkaaGreatDoor
namespace Go.Proofs.YtedkjanogjglkaaGreatDoor
open Go.RowKit
theorem copyUsed (b : Nat) (w : World) (h0 : w.cell? ⟨b, 0, none⟩ = some (.pointer (some ⟨b, 0, none⟩))) :
  Calls Tryz.prog 131 #[.pointer (some ⟨b, 0, none⟩)] w fun e w' => e = .returned (.tuple #[]) /\ w' = w := by
 obtain ⟨j, hj, _⟩ := Option.map_eq_some_iff.1 shExtra169.sizeBuilder
 go_enter Tryz.func131, Tryz.ntmps131
 go_wp2
 rw [Lib.run_neq_ptr_same w _ Tryz.underlying153 hj]
 go_wp2
 go_end0
 exact ⟨rfl, rfl⟩
theorem copyFresh (b : Nat) (w : World) (h0 : w.cell? ⟨b, 0, none⟩ = some (.pointer none)) (hsh : w.shape? b = some (155, 2)) (hfz : w.frozen? ⟨b, 0, none⟩ = false) :
  Calls Tryz.prog 131 #[.pointer (some ⟨b, 0, none⟩)] w fun e w' => e = .returned (.tuple #[]) /\ w' = w.setCell ⟨b, 0, none⟩ (.pointer (some ⟨b, 0, none⟩)) := by
 obtain ⟨j, hj, hjs⟩ := Option.map_eq_some_iff.1 shExtra169.sizeBuilder
 go_enter Tryz.func131, Tryz.ntmps131
 go_wp2
 rw [Lib.run_to_unsafe w ⟨b, 0, none⟩ Tryz.underlying153 Tryz.underlying298 hj (by rw [hjs]; decide) hsh (Nat.zero_lt_succ 1)]
 simp only [Result.andThen]
 rw [Oper.upon_value]
 go_wp2
 rw [run_callFunc_extern Tryz.func177 (by kernel_rfl) (by kernel_rfl) (by kernel_rfl) (e := Extern.AbiNoEscape.same) (by kernel_rfl)]
 rw [Lib.run_noEscape]
 simp only [Result.andThen]
 rw [Oper.upon_value]
 go_wp2
 rw [Lib.run_from_unsafe w ⟨b, 0, none⟩ Tryz.underlying298 Tryz.underlying153 hj hsh shExtra169.liesBuilder]
 simp only [Result.andThen]
 rw [Oper.upon_value]
 go_wp2
 go_end0
 exact ⟨rfl, rfl⟩
theorem copyCheck_any (B b : Nat) (l : List Value) (w : World) (h : Lib.IsBuilderF 155 5 B b l w) :
  Calls Tryz.prog 131 #[.pointer (some ⟨b, 0, none⟩)] w fun e w' => e = .returned (.tuple #[]) /\ Lib.BuilderAtF 155 5 B b (.pointer (some ⟨b, 0, none⟩)) l w' /\ Below B w w' /\ Lib.OthersKept 5 (some b) w w' := by
 rcases h with h | h
 ·refine (copyFresh b w h.cell0 h.shape h.frozen0).mono ?_
  rintro e w' ⟨rfl, rfl⟩
  exact ⟨rfl, h.used _, (Below.refl B w).setCell (p := ⟨b, 0, none⟩) h.1 _, (Lib.OthersKept.refl _ _ w).setCell ⟨b, 0, none⟩ rfl _⟩
 ·refine (copyUsed b w h.cell0).mono ?_
  rintro e w' ⟨rfl, rfl⟩
  exact ⟨rfl, h, Below.refl B _, Lib.OthersKept.refl _ _ _⟩
theorem writeString_any (B b : Nat) (l : List Value) (s : ByteArray) (w : World) (h : Lib.IsBuilderF 155 5 B b l w) (hlen : l.length + s.size <= 140737488355328) (hBw : B <= w.heap.size) :
  Calls Tryz.prog 79 #[.pointer (some ⟨b, 0, none⟩), .string s] w fun e w' => e = .returned (.tuple #[.int .i64 s.size, .nilIface]) /\ Lib.BuilderAtF 155 5 B b (.pointer (some ⟨b, 0, none⟩)) (l ++ Lib.strCells s) w' /\ Below B w w' /\ Lib.OthersKept 5 (some b) w w' := by
 obtain ⟨i0, hi, hz0, hz1, hz2⟩ := info_parts shExtra169.infoByte
 have HC := hide (copyCheck_any B b l w h)
 clear h
 go_enter Tryz.func79, Tryz.ntmps79
 go_wp2_with fail
 refine HC.out.mono ?_
 rintro e w1 ⟨rfl, ⟨hB, v, hbk, hown, hne⟩, hb1, hk1⟩
 have c0 : w1.cell? ⟨b, 0, none⟩ = some (.pointer (some ⟨b, 0, none⟩)) := by rw [Lib.cell_of_heap hbk]; rfl
 have c1 : w1.cell? ⟨b, 1, none⟩ = some v := by rw [Lib.cell_of_heap hbk]; rfl
 have hs1 := hb1.size
 have hlt : b < w1.heap.size := lt_of_block hbk
 go_wp2_with (first | (at_builtin; refine Lib.wpList_append_own_stringF _ rfl _ _ 106 9 rfl B 5 i0 Tryz.underlying106 Tryz.underlying9 hi hz0 hz1 hz2 _ _ _ rfl hown s rfl (by unfold maxLen; omega) (by omega) (by omega) ?_; intro v' w2 hown' hgrow hnil; obtain ⟨ao, n', cap, rfl⟩ : ∃ ao n' cap, v' = .slice ao n' cap := (by rcases hown'.2 with ⟨hv, _⟩ | ⟨g, cap, cur, fz, hv, _⟩ <;> exact ⟨_, _, _, hv⟩); have hb2 : w2.heap[b]? = some (.cells #[.pointer (some ⟨b, 0, none⟩), v] 155 (0, 0)) := (hgrow.block b hlt (fun e => hne e.symm)).trans hbk; have d1 : w2.cell? ⟨b, 1, none⟩ = some v := (by rw [Lib.cell_of_heap hb2]; rfl); have f1 : w2.frozen? ⟨b, 1, none⟩ = false := Lib.frozen_of_heap hb2 1))
 go_wp2
 go_ret2
 refine ⟨rfl, ?_, ?_, (hk1.grown hgrow (Lib.ownsRowF_kind hown)).setCell ⟨b, 1, none⟩ rfl _⟩
 ·exact Lib.BuilderAtF.put (T := 155) (e := 5) hB hb2 (bs' := l ++ Lib.strCells s) (by simpa [Lib.strCells_length] using hown') (by decide)
 ·exact (hb1.grown hgrow (by omega) (fun k hk => (hown.lt k hk).1)).setCell (p := ⟨b, 1, none⟩) hB _
end Go.Proofs.YtedkjanogjglkaaGreatDoor
namespace Go.Proofs.YtedkjanogjglkaaGreatDoor.Ref
def ch (d : Nat) : UInt8 := UInt8.ofNat (48 + d)
def digs : Nat -> Nat -> List UInt8
 | 0, n => [ch (n % 10)]
 | f + 1, n => if n < 10 then [ch n] else digs f (n / 10) ++ [ch (n % 10)]
def dec (n : Nat) : List UInt8 := digs n n
theorem digs_enough : ∀ (f g n : Nat), n <= f -> n <= g -> digs f n = digs g n := by
 intro f
 induction f with
 | zero =>
  intro g n hf hg
  have : n = 0 := by omega
  subst this
  cases g with
  | zero => rfl
  | succ g => rfl
 | succ f ih =>
  intro g n hf hg
  cases g with
  | zero =>
   have : n = 0 := by omega
   subst this; rfl
  | succ g =>
   unfold digs
   by_cases h : n < 10
   ·rw [if_pos h, if_pos h]
   ·rw [if_neg h, if_neg h, ih g (n / 10) (by omega) (by omega)]
theorem dec_small {n : Nat} (h : n < 10) : dec n = [ch (n % 10)] := by
 unfold dec
 cases n with
 | zero => rfl
 | succ n => rw [digs, if_pos h, Nat.mod_eq_of_lt h]
theorem dec_big {n : Nat} (h : 10 <= n) : dec n = dec (n / 10) ++ [ch (n % 10)] := by
 unfold dec
 cases n with
 | zero => omega
 | succ m =>
  rw [digs, if_neg (by omega)]
  rw [digs_enough m ((m + 1) / 10) ((m + 1) / 10) (by omega) (Nat.le_refl _)]
theorem digs_length : ∀ (f n : Nat), (digs f n).length <= f + 1 := by
 intro f
 induction f with
 | zero => intro n; simp [digs]
 | succ f ih =>
  intro n
  unfold digs
  split
  ·simp
  ·have := ih (n / 10)
   simp; omega
theorem dec_length (n : Nat) (h : n <= 4611686018427387904) : (dec n).length <= 4611686018427387905 := by
 have := digs_length n n
 unfold dec; omega
def digits (n : Int) : List UInt8 := if n < 0 then 45 :: dec (-n).toNat else dec n.toNat
end Go.Proofs.YtedkjanogjglkaaGreatDoor.Ref
namespace Go.Proofs.YtedkjanogjglkaaGreatDoor
open Go.RowKit
theorem below_set {a w : World} (h : Below a.heap.size a w) {b : Nat} (hb : a.heap.size <= b) (o : Nat) (v : Value) : Below a.heap.size a (w.setCell ⟨b, o, none⟩ v) := h.setCell hb v
theorem own_slice {w : World} {base e size n : Nat} {v : Value} {xs : List Value} (h : w.ownsRow base e size v n xs) : ∃ p c, v = .slice p n c := by
 rcases h.2 with ⟨rfl, rfl⟩ | ⟨g, cap, cur, rfl, _⟩
 ·exact ⟨_, _, rfl⟩
 ·exact ⟨_, _, rfl⟩
theorem size_set (w : World) (a : Addr) (v : Value) : (w.setCell a v).heap.size = w.heap.size := by simp [World.setCell]
end Go.Proofs.YtedkjanogjglkaaGreatDoor
namespace Go.Proofs.YtedkjanogjglkaaGreatDoor.Code
def isIn (lo hi : UInt8) (c : UInt8) : Bool := decide (lo.toNat <= c.toNat) && decide (c.toNat <= hi.toNat)
def cut (word s : List UInt8) : Option (List UInt8) := if word.isPrefixOf s then some (s.drop word.length) else none
theorem cut_app (word r : List UInt8) : cut word (word ++ r) = some r := by
 have : word.isPrefixOf (word ++ r) = true := List.isPrefixOf_iff_prefix.2 (List.prefix_append _ _)
 simp [cut, this]
theorem cut_some {word s r : List UInt8} (h : cut word s = some r) : s = word ++ r := by
 unfold cut at h
 split at h
 ·rename_i hp
  obtain ⟨t, rfl⟩ := List.isPrefixOf_iff_prefix.1 hp
  simp at h
  rw [h]
 ·cases h
theorem cut_none {word s : List UInt8} (h : cut word s = none) : s.take word.length ≠ word := by
 intro hc
 have : word.isPrefixOf s = true := List.isPrefixOf_iff_prefix.2 (List.prefix_iff_eq_take.2 hc.symm)
 simp [cut, this] at h
theorem cut_none_of {word s : List UInt8} (h : s.take word.length ≠ word) : cut word s = none := by
 unfold cut
 split
 ·rename_i hp
  exact absurd (List.prefix_iff_eq_take.1 (List.isPrefixOf_iff_prefix.1 hp)).symm h
 ·rfl
def numFold (n : Nat) (l : List UInt8) : Nat := l.foldl (fun n c => 10 * n + (c.toNat - 48)) n
theorem numFold_snoc (n : Nat) (l : List UInt8) (c : UInt8) : numFold n (l ++ [c]) = 10 * numFold n l + (c.toNat - 48) := by
 simp [numFold, List.foldl_append]
def run (lo hi : UInt8) (s : List UInt8) : List UInt8 := s.takeWhile (isIn lo hi)
def rest (lo hi : UInt8) (s : List UInt8) : List UInt8 := s.dropWhile (isIn lo hi)
theorem run_rest (lo hi : UInt8) (s : List UInt8) : run lo hi s ++ rest lo hi s = s := List.takeWhile_append_dropWhile
def badDigits (d : List UInt8) : Prop := d = [] \/ 10 < d.length \/ (d.head? = some 48 /\ d ≠ [48])
instance (d : List UInt8) : Decidable (badDigits d) := by unfold badDigits; infer_instance
def number (s : List UInt8) : Option (Nat × List UInt8) :=
 if badDigits (run 48 57 s) then none else some (numFold 0 (run 48 57 s), rest 48 57 s)
def below (limit : Int) (s : List UInt8) : Option (Nat × List UInt8) :=
 (number s).bind fun p => if (p.1 : Int) < limit then some p else none
def value (s : List UInt8) : Option (Nat × List UInt8) := (cut [118] s).bind (below 60)
def target (s : List UInt8) : Option (Nat × List UInt8) := (cut [98] s).bind fun s => (number s).map fun p => (min p.1 8, p.2)
def signedOf (minus : Bool) (p : Nat × List UInt8) : Option (Int × List UInt8) :=
 if minus = true /\ p.1 = 0 then none
 else
  let n : Int := if minus then -(p.1 : Int) else p.1
  if n < -2147483648 \/ 2147483647 < n then none else some (n, p.2)
def signed (s : List UInt8) : Option (Int × List UInt8) :=
 match cut [45] s with
 | some r => (number r).bind (signedOf true)
 | none => (number s).bind (signedOf false)
inductive PhiOf : List UInt8 -> Option (List Nat × List UInt8) -> Prop
 | done {s : List UInt8} : cut [32] s = none -> PhiOf s (some ([], s))
 | bad {s r : List UInt8} : cut [32] s = some r -> value r = none -> PhiOf s none
 | more {s r t : List UInt8} {v : Nat} {o : Option (List Nat × List UInt8)} : cut [32] s = some r -> value r = some (v, t) -> PhiOf t o -> PhiOf s (o.map fun p => (v :: p.1, p.2))
def ofN : Nat -> List UInt8 -> Option (List Nat × List UInt8)
 | 0, s => some ([], s)
 | n + 1, s => (cut [32] s).bind fun r => (value r).bind fun p => (ofN n p.2).map fun q => (p.1 :: q.1, q.2)
def ops : List (List UInt8 × Int × Int) :=
 [([97, 100, 100], 2, 4), ([115, 117, 98], 2, 4), ([109, 117, 108], 2, 12), ([100, 105, 118], 2, 20), ([97, 110, 100], 2, 4), ([111, 114], 2, 4), ([120, 111, 114], 2, 4),
  ([115, 104, 108], 2, 5), ([115, 104, 114], 2, 5), ([101, 113], 2, 4), ([108, 116], 2, 4), ([110, 101, 103], 1, 3), ([110, 111, 116], 1, 3)]
def opNamed (l : List UInt8) : Option Nat := (ops.map (·.1)).findIdx? (· = l)
def opOf (k : Nat) : Nat := ((ops.getD k ([], 0, 0)).2.1).toNat
inductive Thing where
 | phi (of : List Nat)
 | arg (n : Nat)
 | const (n : Int)
 | apply (op : Nat) (of : List Nat)
inductive Last where
 | ret (v : Nat)
 | jump (to : Nat)
 | ifs (v t e : Nat)
structure Val where
 num : Nat
 thing : Thing
structure Blk where
 values : List Val
 last : Last
structure Fn where
 args : Nat
 blocks : List Blk
def sPhi : List UInt8 := [112, 104, 105]
def sArg : List UInt8 := [97, 114, 103]
def sConst : List UInt8 := [99, 111, 110, 115, 116]
def sRet : List UInt8 := [114, 101, 116]
def sJump : List UInt8 := [106, 117, 109, 112]
def sIf : List UInt8 := [105, 102]
def word (s : List UInt8) : List UInt8 := run 97 122 s
def behind (s : List UInt8) : List UInt8 := rest 97 122 s
def apply (w s : List UInt8) : Option (Thing × List UInt8) :=
 (opNamed w).bind fun k => (ofN (opOf k) s).map fun p => (.apply k p.1, p.2)
inductive ThingOf (args : Nat) : List UInt8 -> Option (Thing × List UInt8) -> Prop
 | phi {s : List UInt8} {o : Option (List Nat × List UInt8)} : word s = sPhi -> PhiOf (behind s) o -> ThingOf args s (o.map fun p => (.phi p.1, p.2))
 | arg {s : List UInt8} : word s = sArg -> ThingOf args s ((cut [32] (behind s)).bind fun r => (below args r).map fun p => (.arg p.1, p.2))
 | const {s : List UInt8} : word s = sConst -> ThingOf args s ((cut [32] (behind s)).bind fun r => (signed r).map fun p => (.const p.1, p.2))
 | apply {s : List UInt8} : word s ≠ sPhi -> word s ≠ sArg -> word s ≠ sConst -> ThingOf args s (apply (word s) (behind s))
def ifLast (s : List UInt8) : Option (Last × List UInt8) :=
 (cut [32] s).bind fun r => (value r).bind fun p => (cut [32] p.2).bind fun r => (target r).bind fun q => (cut [32] q.2).bind fun r => (target r).map fun z => (.ifs p.1 q.1 z.1, z.2)
def last (s : List UInt8) : Option (Last × List UInt8) :=
 if word s = sRet then (cut [32] (behind s)).bind fun r => (value r).map fun p => (.ret p.1, p.2)
 else if word s = sJump then (cut [32] (behind s)).bind fun r => (target r).map fun p => (.jump p.1, p.2)
 else if word s = sIf then ifLast (behind s)
 else none
def Thing.isPhi : Thing -> Bool
 | .phi _ => true
 | _ => false
inductive ValuesOf (args : Nat) : Bool -> List UInt8 -> Option (List Val × List UInt8) -> Prop
 | done {b : Bool} {s : List UInt8} : cut [118] s = none -> ValuesOf args b s (some ([], s))
 | badV {b : Bool} {s r : List UInt8} : cut [118] s = some r -> value s = none -> ValuesOf args b s none
 | badEq {b : Bool} {s r t : List UInt8} {v : Nat} : cut [118] s = some r -> value s = some (v, t) -> cut [32, 61, 32] t = none -> ValuesOf args b s none
 | badThing {b : Bool} {s r t u : List UInt8} {v : Nat} : cut [118] s = some r -> value s = some (v, t) -> cut [32, 61, 32] t = some u -> ThingOf args u none -> ValuesOf args b s none
 | badPhi {s r t u x : List UInt8} {v : Nat} {y : Thing} : cut [118] s = some r -> value s = some (v, t) -> cut [32, 61, 32] t = some u -> ThingOf args u (some (y, x)) -> y.isPhi = true -> ValuesOf args false s none
 | badEnd {b : Bool} {s r t u x : List UInt8} {v : Nat} {y : Thing} : cut [118] s = some r -> value s = some (v, t) -> cut [32, 61, 32] t = some u -> ThingOf args u (some (y, x)) -> (y.isPhi = true -> b = true) -> cut [10] x = none -> ValuesOf args b s none
 | more {b : Bool} {s r t u x z : List UInt8} {v : Nat} {y : Thing} {o : Option (List Val × List UInt8)} : cut [118] s = some r -> value s = some (v, t) -> cut [32, 61, 32] t = some u -> ThingOf args u (some (y, x)) -> (y.isPhi = true -> b = true) ->
   cut [10] x = some z -> ValuesOf args y.isPhi z o -> ValuesOf args b s (o.map fun p => (⟨v, y⟩ :: p.1, p.2))
end Go.Proofs.YtedkjanogjglkaaGreatDoor.Code
namespace Go.Proofs.YtedkjanogjglkaaGreatDoor
open Go.RowKit
def Rd (w : World) (rb : Nat) (T : TypeId) (s : List UInt8) (l why : Int) (X : List Value) : Prop :=
 w.heap[rb]? = some (.cells (List.toArray (.string (bs s) :: .int .i64 l :: .int .i64 why :: X)) T)
theorem Rd.c0 {w : World} {rb : Nat} {T : TypeId} {s : List UInt8} {l why : Int} {X : List Value} (h : Rd w rb T s l why X) : w.cell? ⟨rb, 0, none⟩ = some (.string (bs s)) := blk_cell h 0 _ (by simp)
theorem Rd.c1 {w : World} {rb : Nat} {T : TypeId} {s : List UInt8} {l why : Int} {X : List Value} (h : Rd w rb T s l why X) : w.cell? ⟨rb, 1, none⟩ = some (.int .i64 l) := blk_cell h 1 _ (by simp)
theorem Rd.c2 {w : World} {rb : Nat} {T : TypeId} {s : List UInt8} {l why : Int} {X : List Value} (h : Rd w rb T s l why X) : w.cell? ⟨rb, 2, none⟩ = some (.int .i64 why) := blk_cell h 2 _ (by simp)
theorem Rd.fz {w : World} {rb : Nat} {T : TypeId} {s : List UInt8} {l why : Int} {X : List Value} (h : Rd w rb T s l why X) (o : Nat) : w.frozen? ⟨rb, o, none⟩ = false := blk_froz h o
theorem Rd.c3 {w : World} {rb : Nat} {T : TypeId} {s : List UInt8} {l why : Int} {a : Value} {X : List Value} (h : Rd w rb T s l why (a :: X)) : w.cell? ⟨rb, 3, none⟩ = some a := blk_cell h 3 _ (by simp)
theorem Rd.set0 {w : World} {rb : Nat} {T : TypeId} {s : List UInt8} {l why : Int} {X : List Value} (h : Rd w rb T s l why X) (s' : List UInt8) : Rd (w.setCell ⟨rb, 0, none⟩ (.string (bs s'))) rb T s' l why X := by
 unfold Rd; rw [set_block h]; simp
theorem Rd.set1 {w : World} {rb : Nat} {T : TypeId} {s : List UInt8} {l why : Int} {X : List Value} (h : Rd w rb T s l why X) (l' : Int) : Rd (w.setCell ⟨rb, 1, none⟩ (.int .i64 l')) rb T s l' why X := by
 unfold Rd; rw [set_block h]; simp
theorem Rd.set3 {w : World} {rb : Nat} {T : TypeId} {s : List UInt8} {l why : Int} {a : Value} {X : List Value} (h : Rd w rb T s l why (a :: X)) (a' : Value) : Rd (w.setCell ⟨rb, 3, none⟩ a') rb T s l why (a' :: X) := by
 unfold Rd; rw [set_block h]; simp
theorem grown_set (w : World) (rb o : Nat) (v : Value) : w.grownBy (w.setCell ⟨rb, o, none⟩ v) (some rb) :=
 ⟨rfl, rfl, rfl, by simp [World.setCell], fun k _ h => Below.heap_setCell w ⟨rb, o, none⟩ v k (fun e => h (by rw [e]))⟩
theorem grown_trans {a b c : World} {r : Option Nat} (h : a.grownBy b r) (k : b.grownBy c r) : a.grownBy c r :=
 ⟨k.os.trans h.os, k.tape.trans h.tape, k.output.trans h.output, Nat.le_trans h.size k.size, fun i hi hn => (k.block i (Nat.lt_of_lt_of_le hi h.size) hn).trans (h.block i hi hn)⟩
theorem grown_refl (w : World) (r : Option Nat) : w.grownBy w r := ⟨rfl, rfl, rfl, Nat.le_refl _, fun _ _ _ => rfl⟩
theorem grown_below {a b : World} {r : Option Nat} (h : Below a.heap.size a b) : a.grownBy b r := ⟨h.os, h.tape, h.output, h.size, fun k hk _ => h.block k hk⟩
theorem own_kept {w w3 : World} {rb : Nat} {C : Array Value} {T : TypeId} {z : Nat × Nat} (hb : w.heap[rb]? = some (.cells C T z)) (hg : w.grownBy w3 (some rb))
  {base e size n : Nat} {v : Value} {xs : List Value} (h : w.ownsRow base e size v n xs) (hT : T ≠ e) : w3.ownsRow base e size v n xs := by
 refine ⟨h.1, ?_⟩
 rcases h.2 with h0 | ⟨g, cap, cur, hv, hbg, hgg, r⟩
 ·exact Or.inl h0
 ·refine Or.inr ⟨g, cap, cur, hv, hbg, ?_, r⟩
  rw [hg.block g (lt_of_block hgg) ?_]; exact hgg
  rintro hc
  simp only [Option.some.injEq] at hc
  subst hc
  rw [hb] at hgg
  simp only [Option.some.injEq, Obj.cells.injEq] at hgg
  exact hT hgg.2.1
theorem grown_app {w w2 w3 : World} {r : Option Nat} {o : Obj} {b : Option Nat} (h : w.grownBy w2 r) (hg : (w2.alloc o).grownBy w3 b) (hb : ∀ j, b = some j -> w.heap.size <= j) : w.grownBy w3 r := by
 refine ⟨hg.os.trans h.os, hg.tape.trans h.tape, hg.output.trans h.output, ?_, fun k hk hn => ?_⟩
 ·have := hg.size
  have := h.size
  simp at *
  omega
 ·have h2 := h.size
  rw [hg.block k (by simp; omega) (fun e => by have := hb k e.symm; omega), Below.heap_alloc w2 o k (by omega)]
  exact h.block k hk hn
theorem grown_alloc (w : World) (r : Option Nat) (o : Obj) : w.grownBy (w.alloc o) r :=
 ⟨rfl, rfl, rfl, by simp, fun k hk _ => Below.heap_alloc w o k hk⟩
theorem grown_new {w w2 : World} {r : Option Nat} (h : w.grownBy w2 r) {b : Nat} (hb : w.heap.size <= b) (o : Nat) (v : Value) : w.grownBy (w2.setCell ⟨b, o, none⟩ v) r :=
 ⟨h.os, h.tape, h.output, by rw [size_set]; exact h.size, fun k hk hn => by rw [Below.heap_setCell w2 ⟨b, o, none⟩ v k (fun e => by simp at e; omega)]; exact h.block k hk hn⟩
theorem new_kept {w w2 : World} {rb : Nat} {o : Obj} (h : (w.alloc o).grownBy w2 (some rb)) (hrb : rb < w.heap.size) : w2.heap[w.heap.size]? = some o := by
 rw [h.block w.heap.size (by simp) (fun e => by simp at e; omega)]
 exact heap_alloc_new w o
def Fails (w : World) (rb : Nat) (why : Int) (e : Ending) (w' : World) : Prop :=
 (∃ l : Int, e = .panicked [{ v := .iface 61 (.agg #[.int .i64 why, .int .i64 l]), recovered := false }]) /\ w.grownBy w' (some rb)
theorem cut_eq (p s : List UInt8) : (((bs s).extract 0 p.length).toList == (bs p).toList) = (Code.cut p s).isSome := by
 rw [ByteArray.toList_eq, ByteArray.toList_eq]
 show (bl ((bs s).extract 0 p.length) == bl (bs p)) = _
 rw [bl_extract, bl_bs, bl_bs, List.drop_zero, Nat.sub_zero]
 cases h : Code.cut p s with
 | none => exact beq_eq_false_iff_ne.2 (Code.cut_none h)
 | some r => rw [Code.cut_some h]; simp
theorem hasPrefix_any (s p : List UInt8) (w : World) (_hs : s.length <= 3000) (_hp : p.length <= 3000) :
  Calls Tryz.prog 192 #[.string (bs s), .string (bs p)] w fun e w' => e = .returned (.bool (Code.cut p s).isSome) /\ w' = w := by
 have e1 := bs_size s
 have e2 := bs_size p
 by_cases h1 : s.length < p.length
 ·have HF := hide (Code.cut_none_of (word := p) (s := s) (by intro h; have := congrArg List.length h; simp at this; omega))
  go_enter Tryz.func192, Tryz.ntmps192
  go_wp2
  go_ret
  exact ⟨ret_bool (by rw [HF.out]; rfl), rfl⟩
 ·go_enter Tryz.func192, Tryz.ntmps192
  go_wp2
  go_ret
  exact ⟨ret_bool (cut_eq p s), rfl⟩
theorem hasPrefix2_any (s p : List UInt8) (w : World) (hs : s.length <= 3000) (hp : p.length <= 3000) :
  Calls Tryz.prog 150 #[.string (bs s), .string (bs p)] w fun e w' => e = .returned (.bool (Code.cut p s).isSome) /\ w' = w := by
 go_enter Tryz.func150, Tryz.ntmps150
 go_wp2_with fail
 refine (hasPrefix_any s p w hs hp).mono ?_
 rintro e w' ⟨rfl, rfl⟩
 go_wp2
 go_ret
 exact ⟨rfl, rfl⟩
theorem cutPrefix_any (s p : List UInt8) (w : World) (hs : s.length <= 3000) (hp : p.length <= 3000) :
  Calls Tryz.prog 221 #[.string (bs s), .string (bs p)] w fun e w' =>
   e = .returned (.tuple #[.string (bs ((Code.cut p s).getD s)), .bool (Code.cut p s).isSome]) /\ w' = w := by
 have e1 := bs_size s
 have e2 := bs_size p
 cases hc : Code.cut p s with
 | none =>
  have HC := hide hc
  clear hc
  go_enter Tryz.func221, Tryz.ntmps221
  go_wp2_with fail
  refine (hasPrefix_any s p w hs hp).mono ?_
  rintro e w' ⟨rfl, rfl⟩
  rw [HC.out]
  go_wp2
  go_ret2
  exact ⟨rfl, rfl⟩
 | some r =>
  have HC := hide hc
  have hl : p.length <= s.length := by rw [Code.cut_some hc]; simp
  have HX : Hid ((bs s).extract p.length s.length = bs r) := by
   refine hide (bl_inj ?_)
   rw [bl_extract, bl_bs, bl_bs, List.take_of_length_le (by simp)]
   rw [Code.cut_some hc]; simp
  clear hc
  go_enter Tryz.func221, Tryz.ntmps221
  go_wp2_with fail
  refine (hasPrefix_any s p w hs hp).mono ?_
  rintro e w' ⟨rfl, rfl⟩
  rw [HC.out]
  go_wp2
  go_ret2
  exact ⟨by rw [HX.out]; rfl, rfl⟩
theorem cutPrefix2_any (s p : List UInt8) (w : World) (hs : s.length <= 3000) (hp : p.length <= 3000) :
  Calls Tryz.prog 190 #[.string (bs s), .string (bs p)] w fun e w' =>
   e = .returned (.tuple #[.string (bs ((Code.cut p s).getD s)), .bool (Code.cut p s).isSome]) /\ w' = w := by
 go_enter Tryz.func190, Tryz.ntmps190
 go_wp2_with fail
 refine (cutPrefix_any s p w hs hp).mono ?_
 rintro e w' ⟨rfl, rfl⟩
 go_wp2
 go_ret2
 exact ⟨rfl, rfl⟩
theorem giveUp_any (rb : Nat) (T : TypeId) (s : List UInt8) (l why a : Int) (X : List Value) (w : World) (hr : Rd w rb T s l why X) :
  Calls Tryz.prog 99 #[.pointer (some ⟨rb, 0, none⟩), .int .i64 a] w fun e w' => Fails w rb a e w' := by
 have c1 := hr.c1
 go_enter Tryz.func99, Tryz.ntmps99
 go_wp2
 exact ⟨rfl, ⟨l, rfl⟩, grown_refl _ _⟩
theorem fail_any (rb : Nat) (T : TypeId) (s : List UInt8) (l why : Int) (X : List Value) (w : World) (hr : Rd w rb T s l why X) :
  Calls Tryz.prog 59 #[.pointer (some ⟨rb, 0, none⟩)] w fun e w' => Fails w rb why e w' := by
 have c1 := hr.c1
 have c2 := hr.c2
 go_enter Tryz.func59, Tryz.ntmps59
 go_wp2_with fail
 refine (giveUp_any rb T s l why why X w hr).mono ?_
 rintro e w' ⟨⟨l', rfl⟩, hg⟩
 go_wp2
 exact ⟨rfl, ⟨l', rfl⟩, hg⟩
theorem skip_any (rb : Nat) (T : TypeId) (s p : List UInt8) (l why : Int) (X : List Value) (w : World) (hr : Rd w rb T s l why X) (hs : s.length <= 3000) (hp : p.length <= 3000) :
  Calls Tryz.prog 148 #[.pointer (some ⟨rb, 0, none⟩), .string (bs p)] w fun e w' =>
   e = .returned (.bool (Code.cut p s).isSome) /\ Rd w' rb T ((Code.cut p s).getD s) l why X /\ w.grownBy w' (some rb) := by
 have c0 := hr.c0
 have f0 := hr.fz 0
 go_enter Tryz.func148, Tryz.ntmps148
 go_wp2_with fail
 refine (cutPrefix2_any s p w hs hp).mono ?_
 rintro e w' ⟨rfl, rfl⟩
 go_wp2
 go_ret
 exact ⟨rfl, hr.set0 _, grown_set _ _ _ _⟩
theorem take_any (rb : Nat) (T : TypeId) (s p : List UInt8) (l why : Int) (X : List Value) (w : World) (hr : Rd w rb T s l why X) (hs : s.length <= 3000) (hp : p.length <= 3000) :
  Calls Tryz.prog 101 #[.pointer (some ⟨rb, 0, none⟩), .string (bs p)] w fun e w' =>
   (∃ r, Code.cut p s = some r /\ e = .returned (.tuple #[]) /\ Rd w' rb T r l why X /\ w.grownBy w' (some rb)) \/ (Code.cut p s = none /\ Fails w rb why e w') := by
 cases hc : Code.cut p s with
 | none =>
  have HC := hide hc
  clear hc
  go_enter Tryz.func101, Tryz.ntmps101
  go_wp2_with fail
  refine (skip_any rb T s p l why X w hr hs hp).mono ?_
  rw [HC.out]
  rintro e w' ⟨rfl, hr', hg⟩
  go_wp2_with fail
  refine (fail_any rb T _ l why X w' hr').mono ?_
  rintro e w'' ⟨⟨l', rfl⟩, hg'⟩
  go_wp2
  exact ⟨rfl, Or.inr ⟨by simp, ⟨l', rfl⟩, grown_trans hg hg'⟩⟩
 | some r =>
  have HC := hide hc
  clear hc
  go_enter Tryz.func101, Tryz.ntmps101
  go_wp2_with fail
  refine (skip_any rb T s p l why X w hr hs hp).mono ?_
  rw [HC.out]
  rintro e w' ⟨rfl, hr', hg⟩
  go_wp2
  go_end0
  exact Or.inl ⟨r, rfl, rfl, hr', hg⟩
namespace Code
theorem takeWhile_take (p : UInt8 -> Bool) (s : List UInt8) (k : Nat) (h : (s.take k).all p = true) (hk : k <= s.length) (he : ∀ c, s[k]? = some c -> p c = false) :
  s.takeWhile p = s.take k /\ s.dropWhile p = s.drop k := by
 induction s generalizing k with
 | nil => simp
 | cons c t ih =>
  cases k with
  | zero =>
   have := he c rfl
   simp [List.takeWhile, List.dropWhile, this]
  | succ k =>
   simp only [List.take_succ_cons, List.all_cons, Bool.and_eq_true] at h
   have := ih k h.2 (by simp at hk; omega) (fun d hd => he d (by simpa using hd))
   simp [List.takeWhile, List.dropWhile, h.1, this.1, this.2]
end Code
theorem bs_get (s : List UInt8) (k : Nat) (_h : k < s.length) (hk : k < (bs s).size) : (bs s)[k]'hk = s[k] := by
 simp [bs]; rfl
theorem ret_str {a b : ByteArray} (h : a = b) : Ending.returned (.string a) = .returned (.string b) := by rw [h]
theorem isIn_yes {lo hi c : UInt8} (h : (lo.toNat : Int) <= (c.toNat : Int)) (h' : (c.toNat : Int) <= (hi.toNat : Int)) : Code.isIn lo hi c = true := by
 simp [Code.isIn]; omega
theorem isIn_no {lo hi c : UInt8} (h : ¬ ((lo.toNat : Int) <= (c.toNat : Int) /\ (c.toNat : Int) <= (hi.toNat : Int))) : Code.isIn lo hi c = false := by
 have : ¬ (lo.toNat <= c.toNat /\ c.toNat <= hi.toNat) := by omega
 simp only [Code.isIn, Bool.and_eq_false_iff, decide_eq_false_iff_not]
 omega
theorem run_any (rb : Nat) (T : TypeId) (s : List UInt8) (lo hi : UInt8) (l why : Int) (X : List Value) (w : World) (hr : Rd w rb T s l why X) (hs : s.length <= 3000) :
  Calls Tryz.prog 197 #[.pointer (some ⟨rb, 0, none⟩), .int .u8 lo.toNat, .int .u8 hi.toNat] w fun e w' =>
   e = .returned (.string (bs (Code.run lo hi s))) /\ Rd w' rb T (Code.rest lo hi s) l why X /\ w.grownBy w' (some rb) := by
 have c0 := hr.c0
 have f0 := hr.fz 0
 have e1 := bs_size s
 go_enter Tryz.func197, Tryz.ntmps197
 go_wp2
 go_loop [7] (fun n => ∃ k : Nat, k <= s.length /\ n = .int .i64 k /\ Hid ((s.take k).all (Code.isIn lo hi) = true)) (fun n => s.length - (intOf n).toNat)
 case atStart => exact ⟨0, Nat.zero_le _, rfl, by simp [Hid]⟩
 case round =>
  obtain ⟨k, hk, rfl, hall⟩ := hrel
  by_cases hlt : k < s.length
  ·have hlt' : k < (bs s).size := by omega
   have HG := hide (bs_get s k hlt hlt')
   have HN : Hid (Code.isIn lo hi s[k] = false -> Code.run lo hi s = s.take k /\ Code.rest lo hi s = s.drop k) := hide fun h =>
    Code.takeWhile_take _ s k hall.out hk (fun c hc => by rw [List.getElem?_eq_getElem hlt] at hc; rw [<- Option.some.inj hc]; exact h)
   have HT : Hid (Code.isIn lo hi s[k] = true -> (s.take (k + 1)).all (Code.isIn lo hi) = true) := hide fun h => by
    rw [List.take_add_one, List.getElem?_eq_getElem hlt, List.all_append, hall.out]
    show (true && (Code.isIn lo hi s[k] && true)) = true
    rw [h]; rfl
   have hin : Code.isIn lo hi s[k] = Code.isIn lo hi ((bs s)[k]'hlt') := by rw [HG.out]
   rw [hin] at HN HT
   clear HG hin
   by_cases h1 : (lo.toNat : Int) <= (((bs s)[k]'hlt').toNat : Int)
   ·by_cases h2 : (((bs s)[k]'hlt').toNat : Int) <= (hi.toNat : Int)
    ·go_wp2
     exact ⟨⟨k + 1, by omega, by go_num, HT.out (isIn_yes h1 h2)⟩, by simp [intOf]; omega⟩
    ·obtain ⟨g1, g2⟩ := HN.out (isIn_no (fun h => h2 h.2))
     have HG1 := hide g1
     have HG2 := hide g2
     clear g1 g2
     go_wp2
     have g1 := HG1.out
     have g2 := HG2.out
     go_ret
     refine ⟨?_, ?_, grown_set _ _ _ _⟩
     ·rw [g1, bs_extract, bl_bs]; simp
     ·rw [g2, show (bs s).extract k s.length = bs (s.drop k) by rw [<- e1]; exact bl_inj (by rw [bl_extract_end, bl_bs, bl_bs])]
      exact hr.set0 _
   ·obtain ⟨g1, g2⟩ := HN.out (isIn_no (fun h => h1 h.1))
    have HG1 := hide g1
    have HG2 := hide g2
    clear g1 g2
    go_wp2
    have g1 := HG1.out
    have g2 := HG2.out
    go_ret
    refine ⟨?_, ?_, grown_set _ _ _ _⟩
    ·rw [g1, bs_extract, bl_bs]; simp
    ·rw [g2, show (bs s).extract k s.length = bs (s.drop k) by rw [<- e1]; exact bl_inj (by rw [bl_extract_end, bl_bs, bl_bs])]
     exact hr.set0 _
  ·have hks : k = s.length := by omega
   have HN := hide (Code.takeWhile_take (Code.isIn lo hi) s k hall.out hk (fun c hc => by rw [List.getElem?_eq_none (by omega)] at hc; cases hc))
   go_wp2
   obtain ⟨g1, g2⟩ := HN.out
   go_ret
   refine ⟨ret_str ?_, ?_, grown_set _ _ _ _⟩
   ·show (bs s).extract 0 s.length = bs (s.takeWhile _)
    rw [g1, List.take_of_length_le (by omega), bs_extract, bl_bs]; simp
   ·show Rd _ _ _ (s.dropWhile _) _ _ _
    rw [g2, List.drop_of_length_le (by omega)]
    exact hr.set0 _
theorem letters_any (rb : Nat) (T : TypeId) (s : List UInt8) (l why : Int) (X : List Value) (w : World) (hr : Rd w rb T s l why X) (hs : s.length <= 3000) :
  Calls Tryz.prog 187 #[.pointer (some ⟨rb, 0, none⟩)] w fun e w' =>
   e = .returned (.string (bs (Code.word s))) /\ Rd w' rb T (Code.behind s) l why X /\ w.grownBy w' (some rb) := by
 go_enter Tryz.func187, Tryz.ntmps187
 go_wp2_with fail
 refine (run_any rb T s 97 122 l why X w hr hs).mono ?_
 rintro e w' ⟨rfl, hr', hg⟩
 go_wp2
 go_ret
 exact ⟨rfl, hr', hg⟩
namespace Code
theorem numFold_lt (l : List UInt8) (h : ∀ c ∈ l, isIn 48 57 c = true) : numFold 0 l < 10 ^ l.length := by
 have key : ∀ (l : List UInt8) (n : Nat), (∀ c ∈ l, isIn 48 57 c = true) -> numFold n l < (n + 1) * 10 ^ l.length := by
  intro l
  induction l with
  | nil => intro n _; simp [numFold]
  | cons c t ih =>
   intro n hc
   have h1 := ih (10 * n + (c.toNat - 48)) (fun c hm => hc c (List.mem_cons_of_mem _ hm))
   have h2 : c.toNat <= 57 := by have := hc c (List.mem_cons_self ..); simp [isIn] at this; omega
   have h3 : numFold n (c :: t) = numFold (10 * n + (c.toNat - 48)) t := rfl
   rw [h3]
   refine Nat.lt_of_lt_of_le h1 ?_
   rw [List.length_cons, Nat.pow_succ, Nat.mul_comm (10 ^ t.length) 10, <- Nat.mul_assoc]
   exact Nat.mul_le_mul_right _ (by omega)
 simpa using key l 0 h
theorem run_all (s : List UInt8) : ∀ c ∈ run 48 57 s, isIn 48 57 c = true := by
 intro c hc
 exact List.all_eq_true.1 List.all_takeWhile c hc
theorem run_length (lo hi : UInt8) (s : List UInt8) : (run lo hi s).length <= s.length := by
 have := congrArg List.length (run_rest lo hi s)
 simp at this; omega
theorem rest_length (lo hi : UInt8) (s : List UInt8) : (rest lo hi s).length <= s.length := by
 have := congrArg List.length (run_rest lo hi s)
 simp at this; omega
theorem number_some {s t : List UInt8} {n : Nat} (h : number s = some (n, t)) : n < 10000000000 /\ t.length < s.length := by
 unfold number at h
 split at h
 ·cases h
 ·rename_i hb
  simp only [Option.some.injEq, Prod.mk.injEq] at h
  obtain ⟨rfl, rfl⟩ := h
  have hb := numFold_lt _ (run_all s)
  have h1 : ¬ run 48 57 s = [] := fun e => (by assumption : ¬ badDigits _) (Or.inl e)
  have h2 : ¬ 10 < (run 48 57 s).length := fun e => (by assumption : ¬ badDigits _) (Or.inr (Or.inl e))
  have h4 : 10 ^ (run 48 57 s).length <= 10 ^ 10 := Nat.pow_le_pow_right (by omega) (by omega)
  have h5 : (10 : Nat) ^ 10 = 10000000000 := by decide
  have h6 := congrArg List.length (run_rest 48 57 s)
  have h7 := List.length_pos_iff.2 h1
  simp at h6
  omega
end Code
theorem digit_at (d : List UInt8) (h : ∀ c ∈ d, Code.isIn 48 57 c = true) (k : Nat) (hk : k < (bs d).size) : 48 <= (((bs d)[k]'hk).toNat : Int) /\ (((bs d)[k]'hk).toNat : Int) <= 57 := by
 have h1 : k < d.length := by rw [bs_size] at hk; exact hk
 rw [bs_get d k h1]
 have := h d[k] (List.getElem_mem h1)
 simp [Code.isIn] at this
 omega
theorem numFold_snoc_at (d : List UInt8) (k : Nat) (hk : k < (bs d).size) : Code.numFold 0 (d.take (k + 1)) = 10 * Code.numFold 0 (d.take k) + (((bs d)[k]'hk).toNat - 48) := by
 have h1 : k < d.length := by rw [bs_size] at hk; exact hk
 rw [bs_get d k h1, List.take_add_one, List.getElem?_eq_getElem h1]
 exact Code.numFold_snoc _ _ _
theorem numFold_take_lt' (d : List UInt8) (h : ∀ c ∈ d, Code.isIn 48 57 c = true) (k : Nat) (h2 : d.length <= 10) : (Code.numFold 0 (d.take k) : Int) < 10000000000 := by
 have hb := Code.numFold_lt (d.take k) (fun c hc => h c (List.mem_of_mem_take hc))
 have h3 : (d.take k).length <= 10 := by have := List.length_take_le' k d; omega
 have h4 : 10 ^ (d.take k).length <= 10 ^ 10 := Nat.pow_le_pow_right (by omega) h3
 have h5 : (10 : Nat) ^ 10 = 10000000000 := by decide
 omega
theorem number_yes (rb : Nat) (T : TypeId) (s : List UInt8) (l why : Int) (X : List Value) (w : World) (hr : Rd w rb T s l why X) (hs : s.length <= 3000) (hb : ¬ Code.badDigits (Code.run 48 57 s)) :
  Calls Tryz.prog 158 #[.pointer (some ⟨rb, 0, none⟩)] w fun e w' =>
   e = .returned (.int .i64 (Code.numFold 0 (Code.run 48 57 s) : Nat)) /\ Rd w' rb T (Code.rest 48 57 s) l why X /\ w.grownBy w' (some rb) := by
 have hall := Code.run_all s
 have hrun := run_any rb T s 48 57 l why X w hr hs
 generalize Code.run 48 57 s = d at *
 generalize Code.rest 48 57 s = t at *
 unfold Code.badDigits at hb
 have b1 : ¬ d = [] := fun h => hb (Or.inl h)
 have b2 : d.length <= 10 := by
  have : ¬ 10 < d.length := fun h => hb (Or.inr (Or.inl h))
  omega
 have e1 := bs_size d
 have b3 : 0 < d.length := List.length_pos_iff.2 b1
 have b4 : 0 < (bs d).size := by omega
 have q1 : ((bs d).toList == []) = false := toList_no (by rw [bl_bs]; exact b1)
 have hz : ((((bs d)[0]'b4).toNat : Int) = 48 /\ ((bs d).toList == [48]) = true) \/ (¬ (((bs d)[0]'b4).toNat : Int) = 48 /\ True) := by
  by_cases h : ((bs d)[0]'b4).toNat = 48
  ·refine Or.inl ⟨by omega, ?_⟩
   have h48 : d.head? = some 48 := by
    rw [bs_get d 0 b3] at h
    rw [List.head?_eq_getElem?, List.getElem?_eq_getElem b3]
    exact congrArg some (UInt8.toNat_inj.1 h)
   have : d = [48] := Classical.byContradiction fun hn => hb (Or.inr (Or.inr ⟨h48, hn⟩))
   exact toList_yes (by rw [bl_bs]; exact this)
  ·exact Or.inr ⟨by omega, trivial⟩
 have HALL := hide hall
 have HD := hide (digit_at d hall)
 have HL := hide (numFold_take_lt' d hall)
 clear hall hb b1
 rcases hz with ⟨z1, z2⟩ | ⟨z1, z2⟩
 all_goals
  go_enter Tryz.func158, Tryz.ntmps158
  go_wp2_with fail
  refine hrun.mono ?_
  rintro e w' ⟨rfl, hr', hg⟩
  go_wp2
  go_loop [4, 28] (fun n i => ∃ k : Nat, k <= d.length /\ i = .int .i64 k /\ n = .int .i64 (Code.numFold 0 (d.take k) : Nat)) (fun _ i => d.length - (intOf i).toNat)
  case atStart => exact ⟨0, Nat.zero_le _, rfl, rfl⟩
  case round =>
   obtain ⟨k, hk, rfl, rfl⟩ := hrel
   clear z1 z2 q1
   have hb := HL.out k b2
   by_cases hlt : k < d.length
   ·have hlt' : k < (bs d).size := by omega
    have HSN := hide (numFold_snoc_at d k hlt')
    have h1 := HD.out k hlt'
    generalize Code.numFold 0 (d.take k) = m at *
    obtain ⟨h1, h2⟩ := h1
    go_wp2
    refine ⟨⟨k + 1, by omega, by go_num, ?_⟩, by simp [intOf]; omega⟩
    rw [HSN.out]; congr 1; omega
   ·have HT := hide (show d.take k = d from List.take_of_length_le (by omega))
    go_wp2
    go_ret
    exact ⟨ret_int (by rw [HT.out]), hr', hg⟩
theorem number_no (rb : Nat) (T : TypeId) (s : List UInt8) (l why : Int) (X : List Value) (w : World) (hr : Rd w rb T s l why X) (hs : s.length <= 3000) (hb : Code.badDigits (Code.run 48 57 s)) :
  Calls Tryz.prog 158 #[.pointer (some ⟨rb, 0, none⟩)] w fun e w' => Fails w rb why e w' := by
 have hrun := run_any rb T s 48 57 l why X w hr hs
 have hlen := Code.run_length 48 57 s
 generalize Code.run 48 57 s = d at *
 generalize Code.rest 48 57 s = t at *
 have e1 := bs_size d
 have hz : (((bs d).toList == []) = true /\ True /\ True) \/ (((bs d).toList == []) = false /\ 10 < (d.length : Int) /\ True) \/
   (∃ b4 : 0 < (bs d).size, ((bs d).toList == []) = false /\ ¬ 10 < (d.length : Int) /\ (((bs d)[0]'b4).toNat : Int) = 48 /\ ((bs d).toList == [48]) = false) := by
  by_cases b1 : d = []
  ·exact Or.inl ⟨toList_yes (by rw [bl_bs]; exact b1), trivial, trivial⟩
  ·have q1 : ((bs d).toList == []) = false := toList_no (by rw [bl_bs]; exact b1)
   by_cases b2 : 10 < d.length
   ·exact Or.inr (Or.inl ⟨q1, by omega, trivial⟩)
   ·rcases hb with h | h | ⟨h, h'⟩
    ·exact absurd h b1
    ·exact absurd h b2
    ·have b3 : 0 < d.length := List.length_pos_iff.2 b1
     refine Or.inr (Or.inr ⟨by omega, q1, by omega, ?_, toList_no (by rw [bl_bs]; exact h')⟩)
     rw [bs_get d 0 b3]
     rw [List.head?_eq_getElem?, List.getElem?_eq_getElem b3] at h
     exact congrArg (fun c : UInt8 => (c.toNat : Int)) (Option.some.inj h)
 clear hb
 rcases hz with ⟨q1, q2, q3⟩ | ⟨q1, q2, q3⟩ | ⟨b4, q1, q2, q3, q4⟩
 all_goals
  go_enter Tryz.func158, Tryz.ntmps158
  go_wp2_with fail
  refine hrun.mono ?_
  rintro e w' ⟨rfl, hr', hg⟩
  go_wp2_with fail
  refine (fail_any rb T _ l why X w' hr').mono ?_
  rintro e w'' ⟨⟨l', rfl⟩, hg'⟩
  go_wp2
  exact ⟨rfl, ⟨l', rfl⟩, grown_trans hg hg'⟩
theorem number_any (rb : Nat) (T : TypeId) (s : List UInt8) (l why : Int) (X : List Value) (w : World) (hr : Rd w rb T s l why X) (hs : s.length <= 3000) :
  Calls Tryz.prog 158 #[.pointer (some ⟨rb, 0, none⟩)] w fun e w' =>
   (∃ n t, Code.number s = some (n, t) /\ e = .returned (.int .i64 (n : Nat)) /\ Rd w' rb T t l why X /\ w.grownBy w' (some rb)) \/ (Code.number s = none /\ Fails w rb why e w') := by
 by_cases hb : Code.badDigits (Code.run 48 57 s)
 ·refine (number_no rb T s l why X w hr hs hb).mono ?_
  intro e w' h
  exact Or.inr ⟨by simp [Code.number, hb], h⟩
 ·refine (number_yes rb T s l why X w hr hs hb).mono ?_
  rintro e w' ⟨rfl, h, hg⟩
  exact Or.inl ⟨_, _, by simp only [Code.number, if_neg hb], rfl, h, hg⟩
theorem below_any (rb : Nat) (T : TypeId) (s : List UInt8) (l why lim : Int) (X : List Value) (w : World) (hr : Rd w rb T s l why X) (hs : s.length <= 3000) :
  Calls Tryz.prog 116 #[.pointer (some ⟨rb, 0, none⟩), .int .i64 lim] w fun e w' =>
   (∃ n t, Code.below lim s = some (n, t) /\ e = .returned (.int .i64 (n : Nat)) /\ Rd w' rb T t l why X /\ w.grownBy w' (some rb)) \/ (Code.below lim s = none /\ Fails w rb why e w') := by
 go_enter Tryz.func116, Tryz.ntmps116
 go_wp2_with fail
 refine (number_any rb T s l why X w hr hs).mono ?_
 rintro e w' (⟨n, t, hn, rfl, hr', hg⟩ | ⟨hn, ⟨l', rfl⟩, hg⟩)
 ·have hb := (Code.number_some hn).1
  have HN := hide hn
  clear hn
  by_cases hlt : (n : Int) < lim
  ·have HB : Hid (Code.below lim s = some (n, t)) := by simp [Hid, Code.below, HN.out, hlt]
   go_wp2
   go_ret
   exact Or.inl ⟨n, t, HB.out, rfl, hr', hg⟩
  ·have HB : Hid (Code.below lim s = none) := by simp [Hid, Code.below, HN.out, hlt]
   go_wp2_with fail
   refine (fail_any rb T _ l why X w' hr').mono ?_
   rintro e w'' ⟨⟨l', rfl⟩, hg'⟩
   go_wp2
   exact ⟨rfl, Or.inr ⟨HB.out, ⟨l', rfl⟩, grown_trans hg hg'⟩⟩
 ·go_wp2
  exact ⟨rfl, Or.inr ⟨by simp [Code.below, hn], ⟨l', rfl⟩, hg⟩⟩
end Go.Proofs.YtedkjanogjglkaaGreatDoor
