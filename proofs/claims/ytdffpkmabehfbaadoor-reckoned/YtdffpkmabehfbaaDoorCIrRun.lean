/-
  Walks: code.Function.Run, ir.allNumbers, ir.Run.
-/
import Derived.Test.YtdffpkmabehfbaaDoorCRun
namespace Go.Proofs.YtdffpkmabehfbaaDoor
open Go.RowKit

def zeros : List Int := List.replicate 60 0

/-- A block that is written whole. -/
theorem whole_block {w : World} {g : Nat} {C : Array Value} {T : TypeId} {z : Nat × Nat} (h : w.heap[g]? = some (.cells C T z)) (vs : List Value) (hl : vs.length = C.size) : (w.setCells g 0 vs).heap[g]? = some (.cells vs.toArray T z) := by
  obtain ⟨C', h1, h2, h3, h4, h5⟩ := setCells_block g vs 0 w C h (by omega)
  rw [h1]
  congr 2
  apply Array.ext_getElem?
  intro j
  by_cases hj : j < vs.length
  · have := h4 j hj
    rw [Nat.zero_add] at this
    rw [this]; simp
  · rw [Array.getElem?_eq_none (by omega), Array.getElem?_eq_none (by rw [List.size_toArray]; omega)]

theorem there_block {w : World} {g : Nat} {C : Array Value} {T : TypeId} (h : w.heap[g]? = some (.cells C T)) : w.there g 0 C.size := by
  intro j hj
  rw [Nat.zero_add]
  refine ⟨?_, blk_froz h j⟩
  rw [blk_cell h j _ (Array.getElem?_eq_getElem hj)]; rfl

theorem machL_length (av : Value) (V : List Int) (st fu : Nat) (h : V.length = 60) : (machL av V st fu).length = 63 := by simp [machL, i32s, h]

theorem machOne (av : Value) (V : List Int) (st fu : Nat) (h : av.oneCell' = true) : (machL av V st fu).toArray.all (·.oneCell') = true := all_oneCell_toArray (fun v hv => by
  rcases List.mem_cons.1 hv with rfl | hv
  · exact h
  · rcases List.mem_append.1 hv with hv | hv
    · obtain ⟨b, _, rfl⟩ := List.mem_map.1 hv
      rfl
    · simp only [List.mem_cons, List.not_mem_nil, or_false] at hv
      rcases hv with rfl | rfl <;> rfl)

theorem machSize (av : Value) (V : List Int) (st fu : Nat) (h : V.length = 60) : (Tryd.prog.info? 55).map (·.size) = some (machL av V st fu).toArray.size := by
  rw [List.size_toArray, machL_length av V st fu h]; kernel_rfl

def zeroMach : Array Value := #[.slice none 0 0, .int .i32 0, .int .i32 0, .int .i32 0, .int .i32 0, .int .i32 0, .int .i32 0, .int .i32 0, .int .i32 0, .int .i32 0, .int .i32 0, .int .i32 0, .int .i32 0, .int .i32 0, .int .i32 0, .int .i32 0, .int .i32 0, .int .i32 0, .int .i32 0, .int .i32 0, .int .i32 0, .int .i32 0, .int .i32 0, .int .i32 0, .int .i32 0, .int .i32 0, .int .i32 0, .int .i32 0, .int .i32 0, .int .i32 0, .int .i32 0, .int .i32 0, .int .i32 0, .int .i32 0, .int .i32 0, .int .i32 0, .int .i32 0, .int .i32 0, .int .i32 0, .int .i32 0, .int .i32 0, .int .i32 0, .int .i32 0, .int .i32 0, .int .i32 0, .int .i32 0, .int .i32 0, .int .i32 0, .int .i32 0, .int .i32 0, .int .i32 0, .int .i32 0, .int .i32 0, .int .i32 0, .int .i32 0, .int .i32 0, .int .i32 0, .int .i32 0, .int .i32 0, .int .i32 0, .int .i32 0, .int .i64 0, .int .i64 0]

theorem zeroMach_size : zeroMach.size = 63 := rfl

/-- A machine that is written into a new block. -/
theorem newMach {W : World} {g : Nat} (h : W.heap[g]? = some (.cells zeroMach 55)) (av : Value) (fu : Nat) :
    Mach (W.setCells g 0 (machL av zeros 0 fu)) g av zeros 0 fu := whole_block h _ (by rw [machL_length _ _ _ _ (by rfl), zeroMach_size])

set_option maxRecDepth 100000 in
set_option maxHeartbeats 2000000 in
theorem frun_any (fargs : Nat) (av : Value) (args : List Int) (fu : Nat) (bks : List Code.Blk) (p : Option Addr) (c base : Nat) (w : World) (hfu : fu ≤ 100000)
    (hav : w.ownsRow 0 3 1 av args.length (ints args)) (hrep : RepBlks w base (.slice p bks.length c) bks) (hr : Code.Runs args bks) :
    Calls Tryd.prog 16 #[.agg #[.int .i64 (fargs : Nat), .slice p bks.length c], av, .int .i64 (fu : Nat)] w fun e w' =>
      ∃ (r : Int) (n : Nat) (er : Int), Code.Ends args bks fu 0 0 zeros 0 r n er ∧ e = .returned (.tuple #[.int .i64 r, .int .i64 (n : Nat), .int .i64 er]) ∧ Below w.heap.size w w' := by
  obtain ⟨pa, ca, rfl⟩ := own_slice hav
  have HREP := hide hrep
  have HAV := hide hav
  have HR := hide hr
  clear hrep hav hr
  have hsz := machSize (.slice pa args.length ca) zeros 0 fu (by rfl)
  have hon := machOne (.slice pa args.length ca) zeros 0 fu rfl
  have hln : (machL (.slice pa args.length ca) zeros 0 fu).toArray.size = 63 := by rw [List.size_toArray]; exact machL_length _ _ _ _ rfl
  go_enter Tryd.func16, Tryd.ntmps16
  have hnb : ((w.alloc (.cells #[.int .i64 (fargs : Nat), .slice p bks.length c] 43)).alloc (.cells zeroMach 55)).heap[w.heap.size + 1]? = some (.cells zeroMach 55) := by
    have h := heap_alloc_new (w.alloc (.cells #[.int .i64 (fargs : Nat), .slice p bks.length c] 43)) (.cells zeroMach 55)
    rw [alloc_size] at h
    exact h
  have HNB := hide hnb
  have hth := there_block hnb
  rw [zeroMach_size] at hth
  have HTH := hide hth
  clear hnb hth hln
  go_wp2_with (first | (refine wpList_store_mid rfl 55 _ _ rfl _ _ _ rfl rfl ?_ ?_ ?_ ?_; (exact HTH.out); (exact hsz); (exact hon); (generalize hw0 : World.setCells _ _ _ _ = w0); (have hm1 : Mach w0 (w.heap.size + 1) (.slice pa args.length ca) zeros 0 fu := (by rw [← hw0]; exact newMach HNB.out _ _)); (have hb1 : Below w.heap.size w w0 := (by rw [← hw0]; exact below_cells (below_al (below_al (Below.refl _ _) _) _) (Nat.le_succ _) _ _)); (have hx1 : w0.heap[w.heap.size]? = some (.cells #[.int .i64 (fargs : Nat), .slice p bks.length c] 43) := (by rw [← hw0]; exact stay_cells (stay_alloc (heap_alloc_new w _)) (Nat.ne_of_lt (Nat.lt_succ_self _)))); clear hw0; (have c0 := blk_cell hx1 0 _ rfl); (have c1 := blk_cell hx1 1 _ rfl)) | fail)
  refine (mrun_any fargs (w.heap.size + 1) (.slice pa args.length ca) args zeros fu bks p c base w0 hm1 rfl (fun x hx => by rw [List.eq_of_mem_replicate hx]; omega) hfu (own_below HAV.out hb1) (HREP.out.below hb1) HR.out).mono ?_
  rintro e w2 ⟨hg2, r, n, er, V, hE, rfl, hm2, hV, hr1, hr2⟩
  have c61 := hm2.steps hV
  have HE := hide hE
  have hb2 : Below w.heap.size w w2 := below_of_grown hb1 hg2 (Nat.le_succ _)
  clear hE hm1 hb1 hx1 c0 c1 hsz hon
  go_wp2_with fail
  go_quiet (fail)
  go_wp2
  refine bodyPost_ret (v := .tuple #[.int .i64 r, .int .i64 (n : Nat), .int .i64 er]) (by simp [results, Tryd.results16, go_sem]) rfl ?_
  exact ⟨r, n, er, HE.out, rfl, belowN hb2 _⟩

set_option maxHeartbeats 2000000 in
theorem allNumbers_ok (av : Value) (args : List Int) (w : World) (hav : w.ownsRow 0 3 1 av args.length (ints args)) (h32 : In32 args) (hl : args.length ≤ 100000) :
    Calls Tryd.prog 15 #[av] w fun e w' => e = .returned (.bool true) ∧ w' = w := by
  obtain ⟨p, ca, rfl, hval⟩ := ints_open hav
  have HV := hide hval
  clear hval hav
  go_enter Tryd.func15, Tryd.ntmps15
  go_wp2
  go_loop [7] (fun i => ∃ k : Nat, k ≤ args.length ∧ i = .int .i64 k) (fun i => args.length - (intOf i).toNat)
  case atStart => exact ⟨0, by omega, rfl⟩
  case round =>
    obtain ⟨k, hk, rfl⟩ := hrel
    by_cases hlt : k < args.length
    · obtain ⟨g, rfl, c0⟩ := HV.out k hlt
      have h1 := h32.get k hlt
      have h2 : ¬ args[k] < -2147483648 := by omega
      have h3 : ¬ 2147483647 < args[k] := by omega
      go_wp2
      exact ⟨⟨k + 1, by omega, by go_num⟩, by simp [intOf]; omega⟩
    · go_wp2
      go_ret
      exact ⟨rfl, rfl⟩

set_option maxRecDepth 100000 in
set_option maxHeartbeats 2000000 in
theorem irRun_ok (s : List UInt8) (f : Code.Fn) (av : Value) (args : List Int) (fu : Nat) (w : World) (hs : s.length ≤ 1500) (ht : Tab w) (hf : Code.FnIs s f) (hr : Code.Right f.blocks) (hav : w.ownsRow 0 3 1 av args.length (ints args)) (hal : args.length = f.args) (h32 : In32 args) (hal2 : args.length ≤ 100000) (hfu : fu ≤ 100000) (hrun : Code.Runs args f.blocks) :
    Calls Tryd.prog 9 #[.string (bs s), av, .int .i64 (fu : Nat)] w fun e w' =>
      ∃ (r : Int) (n : Nat) (er : Int), Code.Ends args f.blocks fu 0 0 zeros 0 r n er ∧ e = .returned (.tuple #[.int .i64 r, .int .i64 (n : Nat), .int .i64 er]) ∧ Below w.heap.size w w' := by
  obtain ⟨pa, ca, rfl⟩ := own_slice hav
  have HAV := hide hav
  have HR := hide hrun
  have H32 := hide h32
  have HREAD := hide (irRead_ok s f w hs ht hf hr)
  clear hav hrun ht hf hr h32
  go_enter Tryd.func9, Tryd.ntmps9
  go_wp2_with fail
  refine HREAD.out.mono ?_
  rintro e w1 ⟨p, c, rfl, hrep, hb1⟩
  have HREP := hide hrep
  have hne : ((args.length : Int) != (f.args : Int)) = false := by rw [hal]; simp
  have hf0 : ¬ (fu : Int) < 0 := by omega
  have hf1 : ¬ (100000 : Int) < (fu : Int) := by omega
  clear hrep hal
  go_wp2_with fail
  generalize hw2 : w1.alloc _ = w2
  have hb2 : Below w.heap.size w w2 := by rw [← hw2]; exact below_al hb1 _
  have hx2 : w2.heap[w1.heap.size]? = some (.cells #[.int .i64 (f.args : Nat), .slice p f.blocks.length c] 43) := by rw [← hw2]; exact heap_alloc_new w1 _
  have hb12 : Below w1.heap.size w1 w2 := by rw [← hw2]; exact below_al (Below.refl _ _) _
  have c0 := blk_cell hx2 0 _ rfl
  have c1 := blk_cell hx2 1 _ rfl
  clear hw2
  refine (allNumbers_ok (.slice pa args.length ca) args w2 (own_below HAV.out hb2) H32.out hal2).mono ?_
  rintro e w2 ⟨rfl, rfl⟩
  go_wp2_with fail
  refine (frun_any f.args (.slice pa args.length ca) args fu f.blocks p c w.heap.size w2 hfu (own_below HAV.out hb2) (HREP.out.below hb12) HR.out).mono ?_
  rintro e w3 ⟨r, n, er, hE, rfl, hb3⟩
  have HE := hide hE
  clear hE
  go_wp2
  refine bodyPost_ret (v := .tuple #[.int .i64 r, .int .i64 (n : Nat), .int .i64 er]) (by simp [results, Tryd.results9, go_sem]) rfl ?_
  exact ⟨r, n, er, HE.out, rfl, hb2.trans (hb3.mono hb2.size)⟩
end Go.Proofs.YtdffpkmabehfbaaDoor
