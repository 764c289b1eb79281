/-
  Parts of the proof: RTextW2, RTextL, RTextW3, RStepP2.
-/
import Derived.Test.YtedkjanogjglkaaGreatDoorP09
import Derived.Test.YtedkjanogjglkaaGreatDoorP14
import Derived.Test.YtedkjanogjglkaaGreatDoorP18
set_option maxRecDepth 100000
set_option maxHeartbeats 8000000
namespace Go.Proofs.YtedkjanogjglkaaGreatDoor
open Go.RowKit
theorem IntsAt.one (w : World) (T : TypeId) (n : Int) : IntsAt (w.alloc (.cells #[.int .i64 n] T)) (.slice (some ⟨w.heap.size, 0, none⟩) 1 1) [n] := by
 refine ⟨_, _, rfl, fun j hj => ⟨_, rfl, ?_⟩⟩
 have h0 : j = 0 := by simpa using hj
 subst h0
 exact blk_cell (heap_alloc_new w _) 0 _ rfl
theorem IntsAt.two (w : World) (T : TypeId) (n m : Int) : IntsAt (w.alloc (.cells #[.int .i64 n, .int .i64 m] T)) (.slice (some ⟨w.heap.size, 0, none⟩) 2 2) [n, m] := by
 refine ⟨_, _, rfl, fun j hj => ⟨_, rfl, ?_⟩⟩
 have h0 : j = 0 \/ j = 1 := by simp at hj; omega
 rcases h0 with rfl | rfl
 ·exact blk_cell (heap_alloc_new w _) 0 _ rfl
 ·exact blk_cell (heap_alloc_new w _) 1 _ rfl
theorem numbered_one (mark : List UInt8) (n : Int) (hn : -9223372036854775808 <= n /\ n <= 9223372036854775807) (hmk : mark.length <= 100) (w : World) (g : Nat) (hg : g = w.heap.size) (ht : TabI w) :
  Calls Tryz.prog 80 #[.string (bs mark), .slice (some ⟨g, 0, none⟩) 1 1] (w.alloc (.cells #[.int .i64 n] 3)) fun e w' => e = .returned (.string (bs (Code.numb mark [n]))) /\ Below w.heap.size w w' := by
 subst hg
 refine (numbered_any mark [n] _ _ (IntsAt.one w _ n) (by simpa using hn) (by simp) hmk (ht.below (below_al (Below.refl _ _) _))).mono ?_
 rintro e w' ⟨rfl, hb⟩
 exact ⟨rfl, unalB hb⟩
theorem ofNats_in {l : List Nat} (h : ∀ x ∈ l, x < 60) : ∀ n ∈ Code.ofNats l, -9223372036854775808 <= n /\ n <= 9223372036854775807 := by
 intro n hn
 obtain ⟨x, hx, rfl⟩ := List.mem_map.1 hn
 have := h x hx
 have e : Int.ofNat x = (x : Int) := rfl
 omega
theorem one_in {x : Nat} (h : x < 1000) : -9223372036854775808 <= (x : Int) /\ (x : Int) <= 9223372036854775807 := by omega
theorem numb_size (mark : List UInt8) (n : Int) (hn : -9223372036854775808 <= n /\ n <= 9223372036854775807) (hmk : mark.length <= 100) : (bs (Code.numb mark [n])).size <= 121 := by
 rw [bs_size]
 have := Code.numb_len mark [n] (by simpa using hn)
 simp at this
 omega
theorem numbs_size (mark : List UInt8) (l : List Nat) (hl : ∀ x ∈ l, x < 60) (hll : l.length <= 100000) (hmk : mark.length <= 100) : (bs (Code.numb mark (Code.ofNats l))).size <= 12100000 := by
 rw [bs_size]
 have h1 := Code.numbs_len mark l hl
 have h2 : l.length * (mark.length + 21) <= 100000 * 121 := Nat.mul_le_mul hll (by omega)
 omega
theorem tArg_arg (v : Value) (w : World) : (Instr.typeAssert (.iface 234 v) 167 234 true).run Tryz.prog w = .ok (.tuple #[v, .bool true]) w := by kernel_rfl
theorem tArg_const (v : Value) (w : World) : (Instr.typeAssert (.iface 236 v) 167 234 true).run Tryz.prog w = .ok (.tuple #[.agg #[.int .i64 0], .bool false]) w := by kernel_rfl
theorem tArg_apply (v : Value) (w : World) : (Instr.typeAssert (.iface 238 v) 167 234 true).run Tryz.prog w = .ok (.tuple #[.agg #[.int .i64 0], .bool false]) w := by kernel_rfl
theorem tConst_const (v : Value) (w : World) : (Instr.typeAssert (.iface 236 v) 167 236 true).run Tryz.prog w = .ok (.tuple #[v, .bool true]) w := by kernel_rfl
theorem tConst_apply (v : Value) (w : World) : (Instr.typeAssert (.iface 238 v) 167 236 true).run Tryz.prog w = .ok (.tuple #[.agg #[.int .i32 0], .bool false]) w := by kernel_rfl
theorem thingText_any (t : Code.Thing) (v : Value) (w : World) (hv : ThingV w 0 t v) (hg : Code.NiceT t) (hi : TabI w) (ht : Tab w) :
  Calls Tryz.prog 81 #[v] w fun e w' => e = .returned (.string (bs (Code.wrT t))) /\ Below w.heap.size w w' := by
 cases t with
 | phi of =>
  obtain ⟨r, rfl, hr⟩ := hv
  have HA : Hid (∀ w1, Below w.heap.size w w1 -> Calls Tryz.prog 80 #[.string (bs [32, 118]), r] w1 fun e w' => e = .returned (.string (bs (Code.numb [32, 118] (Code.ofNats of)))) /\ Below w1.heap.size w1 w') := hide fun w1 h1 => numbered_any _ _ r w1 ((IntsAt.nats hr).below h1) (ofNats_in hg.2) (by have := hg.1; simp [Code.ofNats]; omega) (by decide) (hi.below h1)
  obtain ⟨p, c, rfl⟩ := own_slice hr
  have t1 := isPhi_phi
  have hNs := numbs_size [32, 118] of hg.2 hg.1 (by decide)
  clear hr hg hi ht
  simp only [Code.wrT]
  generalize Code.numb [32, 118] (Code.ofNats of) = N at *
  rw [<- bs_append]
  generalize bs N = Nb at *
  go_enter Tryz.func81, Tryz.ntmps81
  go_wp2_with fail
  generalize hw0 : w.alloc _ = w0
  have hb0 : Below w.heap.size w w0 := by rw [<- hw0]; exact below_al (Below.refl _ _) _
  clear hw0
  refine (HA.out w0 hb0).mono ?_
  rintro e w1 ⟨rfl, hb1⟩
  go_wp2
  go_ret
  exact ⟨rfl, hb0.trans (hb1.mono hb0.size)⟩
 | arg n =>
  have hv' : v = _ := hv
  subst hv'
  have t1 := isPhi_arg
  have t2 := tArg_arg
  simp only [Code.wrT]
  have HN := hide (one_in (x := n) hg)
  clear hv hg ht
  have HB := hide (numbered_one [97, 114, 103, 32] n HN.out (by decide))
  generalize Code.numb [97, 114, 103, 32] [(n : Int)] = N at *
  go_enter Tryz.func81, Tryz.ntmps81
  go_wp2_with fail
  refine (HB.out _ _ (by rw [alloc_size]) (hi.below (below_al (Below.refl _ _) _))).mono ?_
  rintro e w1 ⟨rfl, hb1⟩
  go_wp2
  go_ret
  exact ⟨rfl, unalB hb1⟩
 | const n =>
  have hv' : v = _ := hv
  subst hv'
  have t1 := isPhi_const
  have t2 := tArg_const
  have t3 := tConst_const
  simp only [Code.wrT]
  have hn : -2147483648 <= n /\ n < 2147483648 := hg
  have HN : Hid (-9223372036854775808 <= n /\ n <= 9223372036854775807) := hide (by omega)
  clear hv hg ht
  have HB := hide (numbered_one [99, 111, 110, 115, 116, 32] n HN.out (by decide))
  generalize Code.numb [99, 111, 110, 115, 116, 32] [n] = N at *
  go_enter Tryz.func81, Tryz.ntmps81
  go_wp2_with fail
  refine (HB.out _ _ (by rw [alloc_size]) (hi.below (below_al (Below.refl _ _) _))).mono ?_
  rintro e w1 ⟨rfl, hb1⟩
  go_wp2
  go_ret
  exact ⟨rfl, unalB hb1⟩
 | apply k of =>
  obtain ⟨r, rfl, hr⟩ := hv
  have h2 := Code.opOf_range k hg.1
  have HA : Hid (∀ w1, Below w.heap.size w w1 -> Calls Tryz.prog 80 #[.string (bs [32, 118]), r] w1 fun e w' => e = .returned (.string (bs (Code.numb [32, 118] (Code.ofNats of)))) /\ Below w1.heap.size w1 w') := hide fun w1 h1 => numbered_any _ _ r w1 ((IntsAt.nats hr).below h1) (ofNats_in hg.2.2) (by have := hg.2.1; simp [Code.ofNats]; omega) (by decide) (hi.below h1)
  have HO : Hid (∀ w1, Below w.heap.size w w1 -> Calls Tryz.prog 133 #[.int .i64 (k : Nat)] w1 fun e w' => e = .returned (.string (bs (Code.opName k))) /\ w' = w1) := hide fun w1 h1 => opName_any k w1 hg.1 (ht.below h1)
  obtain ⟨p, c, rfl⟩ := own_slice hr
  have t1 := isPhi_apply
  have t2 := tArg_apply
  have t3 := tConst_apply
  have t4 := isApply_apply
  have hNs := numbs_size [32, 118] of hg.2.2 (by have := hg.2.1; omega) (by decide)
  have hOs : (bs (Code.opName k)).size <= 10 := by rw [bs_size]; exact Code.opName_len k
  clear hr hg hi ht h2
  simp only [Code.wrT]
  generalize Code.numb [32, 118] (Code.ofNats of) = N at *
  generalize Code.opName k = O at *
  rw [<- bs_append]
  generalize bs N = Nb at *
  generalize bs O = Ob at *
  have hadd : Ob.size + Nb.size <= 9223372036854775807 := by omega
  clear hNs hOs
  go_enter Tryz.func81, Tryz.ntmps81
  go_wp2_with fail
  generalize hw0 : w.alloc _ = w0
  have hb0 : Below w.heap.size w w0 := by rw [<- hw0]; exact below_al (Below.refl _ _) _
  have hx0 : w0.heap[w.heap.size]? = some (.cells #[.int .i64 (k : Nat), .slice p of.length c] 238) := by rw [<- hw0]; exact heap_alloc_new w _
  clear hw0
  have hS : w0.drew.heap[w.heap.size]? = some (.cells #[.int .i64 (k : Nat), .slice p of.length c] 238) := hx0
  refine wp_region_held_drew (S := fun w' => w'.heap[w.heap.size]? = some (.cells #[.int .i64 (k : Nat), .slice p of.length c] 238)) (by kernel_rfl) hx0 (fun hHeld => ?_)
  have hbd : Below w.heap.size w w0.drew := hb0.drew
  generalize w0.drew = wd at *
  clear hx0 hHeld hb0
  refine wpAnyH_take (i := 0) (v := .pointer (some ⟨w.heap.size, 0, none⟩)) rfl (by kernel_rfl) (by kernel_rfl) (by kernel_rfl) (fun _ _ _ h => h) (Or.inl ⟨by rfl, fun w' h => by  go_simp⟩) hS ?_
  try simp only [Act.put, zz]
  refine wpAnyH_take (i := 1) (v := .int .i64 (k : Nat)) rfl (by kernel_rfl) (by kernel_rfl) (by kernel_rfl) (fun _ _ _ h => h) (Or.inl ⟨by rfl, fun w' h => by have r0 := blk_cell h 0 _ rfl; go_simp⟩) hS ?_
  try simp only [Act.put, zz]
  refine wpAnyH_take (i := 3) (v := .pointer (some ⟨w.heap.size, 1, none⟩)) rfl (by kernel_rfl) (by kernel_rfl) (by kernel_rfl) (fun _ _ _ h => h) (Or.inl ⟨by rfl, fun w' h => by  go_simp⟩) hS ?_
  try simp only [Act.put, zz]
  refine wpAnyH_take (i := 4) (v := .slice p of.length c) rfl (by kernel_rfl) (by kernel_rfl) (by kernel_rfl) (fun _ _ _ h => h) (Or.inl ⟨by rfl, fun w' h => by have r0 := blk_cell h 1 _ rfl; go_simp⟩) hS ?_
  try simp only [Act.put, zz]
  refine wpAnyH_ready (rs := [2]) (by kernel_rfl) (by simp) ?_
  refine AllReadyH.cons rfl (fun K hK => ?_) AllReadyH.nil
  rw [if_pos (by rfl)]
  go_wp2_with fail
  refine (HO.out _ hbd).mono ?_
  rintro e w1 ⟨rfl, rfl⟩
  refine hK.out _ _ hS (fun hHeld => ?_)
  clear hK K
  try simp only [Act.put, zz]
  refine wpAnyH_ready (rs := [5]) (by kernel_rfl) (by simp) ?_
  refine AllReadyH.cons rfl (fun K hK => ?_) AllReadyH.nil
  rw [if_pos (by rfl)]
  go_wp2_with fail
  refine (HA.out _ hbd).mono ?_
  rintro e w2 ⟨rfl, hb2⟩
  have hS2 := (hb2.block _ (lt_of_block hS)).trans hS
  refine hK.out _ _ hS2 (fun hHeld => ?_)
  clear hK K
  try simp only [Act.put, zz]
  refine wpAnyH_take (i := 6) (v := .string (Ob ++ Nb)) rfl (by kernel_rfl) (by kernel_rfl) (by kernel_rfl) (fun _ _ _ h => h) (Or.inl ⟨by rfl, fun w' h => by  go_simp⟩) hS2 ?_
  try simp only [Act.put, zz]
  refine wpAnyH_take (i := 7) (v := .string (Ob ++ Nb)) rfl (by kernel_rfl) (by kernel_rfl) (by kernel_rfl) (fun _ _ _ h => h) (Or.inl ⟨by rfl, fun w' h => by  go_simp⟩) hS2 ?_
  try simp only [Act.put, zz]
  refine wpAnyH_done (by kernel_rfl) ?_ _
  go_wp2
  go_ret
  exact ⟨rfl, hbd.trans (hb2.mono hbd.size)⟩
theorem numbered_two (mark : List UInt8) (n m : Int) (hn : -9223372036854775808 <= n /\ n <= 9223372036854775807) (hm : -9223372036854775808 <= m /\ m <= 9223372036854775807) (hmk : mark.length <= 100) (w : World) (sl : Value) (hs : IntsAt w sl [n, m]) (ht : TabI w) :
  Calls Tryz.prog 80 #[.string (bs mark), sl] w fun e w' => e = .returned (.string (bs (Code.numb mark [n, m]))) /\ Below w.heap.size w w' :=
 numbered_any mark [n, m] sl w hs (by intro x hx; simp only [List.mem_cons, List.not_mem_nil, or_false] at hx; rcases hx with rfl | rfl <;> assumption) (by simp) hmk ht
theorem numb_size2 (mark : List UInt8) (n m : Int) (hn : -9223372036854775808 <= n /\ n <= 9223372036854775807) (hm : -9223372036854775808 <= m /\ m <= 9223372036854775807) (hmk : mark.length <= 100) : (bs (Code.numb mark [n, m])).size <= 242 := by
 rw [bs_size]
 have := Code.numb_len mark [n, m] (by intro x hx; simp only [List.mem_cons, List.not_mem_nil, or_false] at hx; rcases hx with rfl | rfl <;> assumption)
 simp at this
 omega
theorem lastText_any (z : Code.Last) (w : World) (hg : Code.NiceL z) (hi : TabI w) :
  Calls Tryz.prog 82 #[lastV z] w fun e w' => e = .returned (.string (bs (Code.wrL z))) /\ Below w.heap.size w w' := by
 cases z with
 | ret n =>
  have t1 := isRet_ret
  unfold lastV
  simp only [Code.wrL]
  have hn := one_in (x := n) (by have : n < 60 := hg; omega)
  have HB := hide (numbered_one [32, 118] n hn (by decide))
  have hNs := numb_size [32, 118] n hn (by decide)
  generalize Code.numb [32, 118] [(n : Int)] = N at *
  rw [<- bs_append]
  generalize bs N = Nb at *
  clear hn hg
  go_enter Tryz.func82, Tryz.ntmps82
  go_wp2_with fail
  refine (HB.out _ _ (by rw [alloc_size]) (hi.below (below_al (Below.refl _ _) _))).mono ?_
  rintro e w1 ⟨rfl, hb1⟩
  go_wp2
  go_ret
  exact ⟨rfl, unalB hb1⟩
 | jump n =>
  have t1 := isRet_jump
  have t2 := isJump_jump
  unfold lastV
  simp only [Code.wrL]
  have hn := one_in (x := n) hg
  have HB := hide (numbered_one [32, 98] n hn (by decide))
  have hNs := numb_size [32, 98] n hn (by decide)
  generalize Code.numb [32, 98] [(n : Int)] = N at *
  rw [<- bs_append]
  generalize bs N = Nb at *
  clear hn hg
  go_enter Tryz.func82, Tryz.ntmps82
  go_wp2_with fail
  refine (HB.out _ _ (by rw [alloc_size]) (hi.below (below_al (Below.refl _ _) _))).mono ?_
  rintro e w1 ⟨rfl, hb1⟩
  go_wp2
  go_ret
  exact ⟨rfl, unalB hb1⟩
 | ifs n x y =>
  have t1 := isRet_if
  have t2 := isJump_if
  have t3 := isIf_if
  unfold lastV
  simp only [Code.wrL]
  have hn := one_in (x := n) (by have : n < 60 := hg.1; omega)
  have hx := one_in (x := x) hg.2.1
  have hy := one_in (x := y) hg.2.2
  have HB : Hid (∀ w1 sl, IntsAt w1 sl [(n : Int)] -> TabI w1 -> Calls Tryz.prog 80 #[.string (bs [32, 118]), sl] w1 fun e w' => e = .returned (.string (bs (Code.numb [32, 118] [(n : Int)]))) /\ Below w1.heap.size w1 w') := hide fun w1 sl hs ht => numbered_any [32, 118] [(n : Int)] sl w1 hs (by simpa using hn) (by simp) (by decide) ht
  have HC := hide (numbered_two [32, 98] x y hx hy (by decide))
  have hNs := numb_size [32, 118] n hn (by decide)
  have hMs := numb_size2 [32, 98] x y hx hy (by decide)
  generalize Code.numb [32, 118] [(n : Int)] = N at *
  generalize Code.numb [32, 98] [(x : Int), (y : Int)] = M at *
  rw [<- bs_append, <- bs_append]
  generalize bs N = Nb at *
  generalize bs M = Mb at *
  have a1 : 2 + Nb.size <= 9223372036854775807 := by omega
  have a2 : 2 + Nb.size + Mb.size <= 9223372036854775807 := by omega
  have HI := hide hi
  clear hn hg hx hy hNs hMs hi
  go_enter Tryz.func82, Tryz.ntmps82
  go_wp2_with fail
  generalize hw0 : w.alloc _ = w0
  have hb0 : Below w.heap.size w w0 := by rw [<- hw0]; exact below_al (Below.refl _ _) _
  have hx0 : w0.heap[w.heap.size]? = some (.cells #[.int .i64 (n : Nat), .int .i64 (x : Nat), .int .i64 (y : Nat)] 244) := by rw [<- hw0]; exact heap_alloc_new w _
  clear hw0
  have hS : w0.drew.heap[w.heap.size]? = some (.cells #[.int .i64 (n : Nat), .int .i64 (x : Nat), .int .i64 (y : Nat)] 244) := hx0
  refine wp_region_held_drew (S := fun w' => w'.heap[w.heap.size]? = some (.cells #[.int .i64 (n : Nat), .int .i64 (x : Nat), .int .i64 (y : Nat)] 244)) (by kernel_rfl) hx0 (fun hHeld => ?_)
  have hbd : Below w.heap.size w w0.drew := hb0.drew
  generalize w0.drew = wd at *
  clear hx0 hHeld hb0
  refine wpAnyH_take (i := 0) (v := .pointer (some ⟨w.heap.size, 0, none⟩)) rfl (by kernel_rfl) (by kernel_rfl) (by kernel_rfl) (fun _ _ _ h => h) (Or.inl ⟨by rfl, fun w' h => by  go_simp⟩) hS ?_
  try simp only [Act.put, zz]
  refine wpAnyH_take (i := 1) (v := .int .i64 (n : Nat)) rfl (by kernel_rfl) (by kernel_rfl) (by kernel_rfl) (fun _ _ _ h => h) (Or.inl ⟨by rfl, fun w' h => by have r0 := blk_cell h 0 _ rfl; go_simp⟩) hS ?_
  try simp only [Act.put, zz]
  refine wpAnyH_take (i := 5) (v := .pointer (some ⟨w.heap.size, 1, none⟩)) rfl (by kernel_rfl) (by kernel_rfl) (by kernel_rfl) (fun _ _ _ h => h) (Or.inl ⟨by rfl, fun w' h => by  go_simp⟩) hS ?_
  try simp only [Act.put, zz]
  refine wpAnyH_take (i := 6) (v := .int .i64 (x : Nat)) rfl (by kernel_rfl) (by kernel_rfl) (by kernel_rfl) (fun _ _ _ h => h) (Or.inl ⟨by rfl, fun w' h => by have r0 := blk_cell h 1 _ rfl; go_simp⟩) hS ?_
  try simp only [Act.put, zz]
  refine wpAnyH_take (i := 7) (v := .pointer (some ⟨w.heap.size, 2, none⟩)) rfl (by kernel_rfl) (by kernel_rfl) (by kernel_rfl) (fun _ _ _ h => h) (Or.inl ⟨by rfl, fun w' h => by  go_simp⟩) hS ?_
  try simp only [Act.put, zz]
  refine wpAnyH_take (i := 8) (v := .int .i64 (y : Nat)) rfl (by kernel_rfl) (by kernel_rfl) (by kernel_rfl) (fun _ _ _ h => h) (Or.inl ⟨by rfl, fun w' h => by have r0 := blk_cell h 2 _ rfl; go_simp⟩) hS ?_
  try simp only [Act.put, zz]
  refine wpAnyH_ready (rs := [2, 9]) (by kernel_rfl) (by simp) ?_
  refine AllReadyH.cons rfl (fun K hK => ?_) (AllReadyH.cons rfl (fun K hK => ?_) AllReadyH.nil)
  ·rw [if_pos (by rfl)]
   go_wp2_with fail
   have hSa := stay_alloc (p := .cells #[.int .i64 (n : Nat)] 3) hS
   have hI := IntsAt.one wd 3 (n : Int)
   have hba : Below w.heap.size w (wd.alloc (.cells #[.int .i64 (n : Nat)] 3)) := below_al hbd _
   generalize wd.alloc (.cells #[.int .i64 (n : Nat)] 3) = wa at *
   generalize wd.heap.size = g1 at *
   refine hK.out _ _ hSa (fun hHeld => ?_)
   clear hK K
   try simp only [Act.put, zz]
   refine wpAnyH_ready (rs := [3, 9]) (by kernel_rfl) (by simp) ?_
   refine AllReadyH.cons rfl (fun K hK => ?_) (AllReadyH.cons rfl (fun K hK => ?_) AllReadyH.nil)
   ·rw [if_pos (by rfl)]
    go_wp2_with fail
    refine (HB.out _ _ hI (HI.out.below hba)).mono ?_
    rintro e w1 ⟨rfl, hb1⟩
    have hS1 := (hb1.block _ (lt_of_block hSa)).trans hSa
    have hbw1 := hba.trans (hb1.mono hba.size)
    refine hK.out _ _ hS1 (fun hHeld => ?_)
    clear hK K
    try simp only [Act.put, zz]
    refine wpAnyH_take (i := 4) (v := .string ((⟨#[105, 102]⟩ : ByteArray) ++ Nb)) rfl (by kernel_rfl) (by kernel_rfl) (by kernel_rfl) (fun _ _ _ h => h) (Or.inl ⟨by rfl, fun w' h => by  go_simp⟩) hS1 ?_
    try simp only [Act.put, zz]
    refine wpAnyH_ready (rs := [9]) (by kernel_rfl) (by simp) ?_
    refine AllReadyH.cons rfl (fun K hK => ?_) AllReadyH.nil
    rw [if_pos (by rfl)]
    go_wp2_with fail
    have hSb := stay_alloc (p := .cells #[.int .i64 (x : Nat), .int .i64 (y : Nat)] 3) hS1
    have hJ := IntsAt.two w1 3 (x : Int) (y : Int)
    have hbb : Below w.heap.size w (w1.alloc (.cells #[.int .i64 (x : Nat), .int .i64 (y : Nat)] 3)) := below_al hbw1 _
    generalize w1.alloc (.cells #[.int .i64 (x : Nat), .int .i64 (y : Nat)] 3) = wb at *
    generalize w1.heap.size = g2 at *
    refine hK.out _ _ hSb (fun hHeld => ?_)
    clear hK K
    try simp only [Act.put, zz]
    refine wpAnyH_ready (rs := [10]) (by kernel_rfl) (by simp) ?_
    refine AllReadyH.cons rfl (fun K hK => ?_) AllReadyH.nil
    rw [if_pos (by rfl)]
    go_wp2_with fail
    refine (HC.out _ _ hJ (HI.out.below hbb)).mono ?_
    rintro e w9 ⟨rfl, hb9⟩
    have hS9 := (hb9.block _ (lt_of_block hSb)).trans hSb
    have hbe : Below w.heap.size w w9 := Below.trans hbb (hb9.mono (Below.size hbb))
    refine hK.out _ _ hS9 (fun hHeld => ?_)
    clear hK K
    try simp only [Act.put, zz]
    refine wpAnyH_take (i := 11) (v := .string ((⟨#[105, 102]⟩ : ByteArray) ++ Nb ++ Mb)) rfl (by kernel_rfl) (by kernel_rfl) (by kernel_rfl) (fun _ _ _ h => h) (Or.inl ⟨by rfl, fun w' h => by  go_simp⟩) hS9 ?_
    try simp only [Act.put, zz]
    refine wpAnyH_take (i := 12) (v := .string ((⟨#[105, 102]⟩ : ByteArray) ++ Nb ++ Mb)) rfl (by kernel_rfl) (by kernel_rfl) (by kernel_rfl) (fun _ _ _ h => h) (Or.inl ⟨by rfl, fun w' h => by  go_simp⟩) hS9 ?_
    try simp only [Act.put, zz]
    refine wpAnyH_done (by kernel_rfl) ?_ _
    go_wp2
    go_ret
    exact ⟨rfl, hbe⟩
   ·rw [if_pos (by rfl)]
    go_wp2_with fail
    have hSb := stay_alloc (p := .cells #[.int .i64 (x : Nat), .int .i64 (y : Nat)] 3) hSa
    have hJ := IntsAt.two wa 3 (x : Int) (y : Int)
    have hI2 := hI.below (below_al (Below.refl _ _) (.cells #[.int .i64 (x : Nat), .int .i64 (y : Nat)] 3))
    have hbb : Below w.heap.size w (wa.alloc (.cells #[.int .i64 (x : Nat), .int .i64 (y : Nat)] 3)) := below_al hba _
    generalize wa.alloc (.cells #[.int .i64 (x : Nat), .int .i64 (y : Nat)] 3) = wb at *
    generalize wa.heap.size = g2 at *
    refine hK.out _ _ hSb (fun hHeld => ?_)
    clear hK K
    try simp only [Act.put, zz]
    refine wpAnyH_ready (rs := [3]) (by kernel_rfl) (by simp) ?_
    refine AllReadyH.cons rfl (fun K hK => ?_) AllReadyH.nil
    rw [if_pos (by rfl)]
    go_wp2_with fail
    refine (HB.out _ _ hI2 (HI.out.below hbb)).mono ?_
    rintro e w1 ⟨rfl, hb1⟩
    have hS1 := (hb1.block _ (lt_of_block hSb)).trans hSb
    have hbw1 := hbb.trans (hb1.mono hbb.size)
    have hJ1 := hJ.below hb1
    refine hK.out _ _ hS1 (fun hHeld => ?_)
    clear hK K
    try simp only [Act.put, zz]
    refine wpAnyH_take (i := 4) (v := .string ((⟨#[105, 102]⟩ : ByteArray) ++ Nb)) rfl (by kernel_rfl) (by kernel_rfl) (by kernel_rfl) (fun _ _ _ h => h) (Or.inl ⟨by rfl, fun w' h => by  go_simp⟩) hS1 ?_
    try simp only [Act.put, zz]
    refine wpAnyH_ready (rs := [10]) (by kernel_rfl) (by simp) ?_
    refine AllReadyH.cons rfl (fun K hK => ?_) AllReadyH.nil
    rw [if_pos (by rfl)]
    go_wp2_with fail
    refine (HC.out _ _ hJ1 (HI.out.below hbw1)).mono ?_
    rintro e w9 ⟨rfl, hb9⟩
    have hS9 := (hb9.block _ (lt_of_block hS1)).trans hS1
    have hbe : Below w.heap.size w w9 := Below.trans hbw1 (hb9.mono (Below.size hbw1))
    refine hK.out _ _ hS9 (fun hHeld => ?_)
    clear hK K
    try simp only [Act.put, zz]
    refine wpAnyH_take (i := 11) (v := .string ((⟨#[105, 102]⟩ : ByteArray) ++ Nb ++ Mb)) rfl (by kernel_rfl) (by kernel_rfl) (by kernel_rfl) (fun _ _ _ h => h) (Or.inl ⟨by rfl, fun w' h => by  go_simp⟩) hS9 ?_
    try simp only [Act.put, zz]
    refine wpAnyH_take (i := 12) (v := .string ((⟨#[105, 102]⟩ : ByteArray) ++ Nb ++ Mb)) rfl (by kernel_rfl) (by kernel_rfl) (by kernel_rfl) (fun _ _ _ h => h) (Or.inl ⟨by rfl, fun w' h => by  go_simp⟩) hS9 ?_
    try simp only [Act.put, zz]
    refine wpAnyH_done (by kernel_rfl) ?_ _
    go_wp2
    go_ret
    exact ⟨rfl, hbe⟩
  ·rw [if_pos (by rfl)]
   go_wp2_with fail
   have hSa := stay_alloc (p := .cells #[.int .i64 (x : Nat), .int .i64 (y : Nat)] 3) hS
   have hJ := IntsAt.two wd 3 (x : Int) (y : Int)
   have hba : Below w.heap.size w (wd.alloc (.cells #[.int .i64 (x : Nat), .int .i64 (y : Nat)] 3)) := below_al hbd _
   generalize wd.alloc (.cells #[.int .i64 (x : Nat), .int .i64 (y : Nat)] 3) = wa at *
   generalize wd.heap.size = g1 at *
   refine hK.out _ _ hSa (fun hHeld => ?_)
   clear hK K
   try simp only [Act.put, zz]
   refine wpAnyH_ready (rs := [2]) (by kernel_rfl) (by simp) ?_
   refine AllReadyH.cons rfl (fun K hK => ?_) AllReadyH.nil
   rw [if_pos (by rfl)]
   go_wp2_with fail
   have hSb := stay_alloc (p := .cells #[.int .i64 (n : Nat)] 3) hSa
   have hI := IntsAt.one wa 3 (n : Int)
   have hJ2 := hJ.below (below_al (Below.refl _ _) (.cells #[.int .i64 (n : Nat)] 3))
   have hbb : Below w.heap.size w (wa.alloc (.cells #[.int .i64 (n : Nat)] 3)) := below_al hba _
   generalize wa.alloc (.cells #[.int .i64 (n : Nat)] 3) = wb at *
   generalize wa.heap.size = g2 at *
   refine hK.out _ _ hSb (fun hHeld => ?_)
   clear hK K
   try simp only [Act.put, zz]
   refine wpAnyH_ready (rs := [3]) (by kernel_rfl) (by simp) ?_
   refine AllReadyH.cons rfl (fun K hK => ?_) AllReadyH.nil
   rw [if_pos (by rfl)]
   go_wp2_with fail
   refine (HB.out _ _ hI (HI.out.below hbb)).mono ?_
   rintro e w1 ⟨rfl, hb1⟩
   have hS1 := (hb1.block _ (lt_of_block hSb)).trans hSb
   have hbw1 := hbb.trans (hb1.mono hbb.size)
   have hJ1 := hJ2.below hb1
   refine hK.out _ _ hS1 (fun hHeld => ?_)
   clear hK K
   try simp only [Act.put, zz]
   refine wpAnyH_take (i := 4) (v := .string ((⟨#[105, 102]⟩ : ByteArray) ++ Nb)) rfl (by kernel_rfl) (by kernel_rfl) (by kernel_rfl) (fun _ _ _ h => h) (Or.inl ⟨by rfl, fun w' h => by  go_simp⟩) hS1 ?_
   try simp only [Act.put, zz]
   refine wpAnyH_ready (rs := [10]) (by kernel_rfl) (by simp) ?_
   refine AllReadyH.cons rfl (fun K hK => ?_) AllReadyH.nil
   rw [if_pos (by rfl)]
   go_wp2_with fail
   refine (HC.out _ _ hJ1 (HI.out.below hbw1)).mono ?_
   rintro e w9 ⟨rfl, hb9⟩
   have hS9 := (hb9.block _ (lt_of_block hS1)).trans hS1
   have hbe : Below w.heap.size w w9 := Below.trans hbw1 (hb9.mono (Below.size hbw1))
   refine hK.out _ _ hS9 (fun hHeld => ?_)
   clear hK K
   try simp only [Act.put, zz]
   refine wpAnyH_take (i := 11) (v := .string ((⟨#[105, 102]⟩ : ByteArray) ++ Nb ++ Mb)) rfl (by kernel_rfl) (by kernel_rfl) (by kernel_rfl) (fun _ _ _ h => h) (Or.inl ⟨by rfl, fun w' h => by  go_simp⟩) hS9 ?_
   try simp only [Act.put, zz]
   refine wpAnyH_take (i := 12) (v := .string ((⟨#[105, 102]⟩ : ByteArray) ++ Nb ++ Mb)) rfl (by kernel_rfl) (by kernel_rfl) (by kernel_rfl) (fun _ _ _ h => h) (Or.inl ⟨by rfl, fun w' h => by  go_simp⟩) hS9 ?_
   try simp only [Act.put, zz]
   refine wpAnyH_done (by kernel_rfl) ?_ _
   go_wp2
   go_ret
   exact ⟨rfl, hbe⟩
abbrev BuildR (B b : Nat) (l : List UInt8) (w : World) : Prop := Lib.IsBuilderF 155 5 B b (Lib.byteCells l) w
theorem BuildR.below {B b : Nat} {l : List UInt8} {w w' : World} (h : BuildR B b l w) (hb : Below w.heap.size w w') : BuildR B b l w' := by
 have hg : w.grownBy w' none := ⟨hb.os, hb.tape, hb.output, hb.size, fun k hk _ => hb.block k hk⟩
 rcases h with ⟨h1, v, h2, h3, h4⟩ | ⟨h1, v, h2, h3, h4⟩
 ·exact Or.inl ⟨h1, v, (hb.block _ (lt_of_block h2)).trans h2, h3.kept hg (Classical.em _), h4⟩
 ·exact Or.inr ⟨h1, v, (hb.block _ (lt_of_block h2)).trans h2, h3.kept hg (Classical.em _), h4⟩
theorem write_any (B b : Nat) (l s : List UInt8) (w : World) (h : BuildR B b l w) (hlen : (l ++ s).length <= 100000000000) (hB : B <= w.heap.size) :
  Calls Tryz.prog 79 #[.pointer (some ⟨b, 0, none⟩), .string (bs s)] w fun e w' => (∃ n, e = .returned (.tuple #[.int .i64 n, .nilIface])) /\ BuildR B b (l ++ s) w' /\ Below B w w' /\ Lib.OthersKept 5 (some b) w w' := by
 refine (writeString_any B b (Lib.byteCells l) (bs s) w h (by rw [Lib.byteCells_length, bs_size]; rw [List.length_append] at hlen; omega) hB).mono ?_
 rintro e w' ⟨rfl, h1, h2, h3⟩
 refine ⟨⟨_, rfl⟩, Or.inr ?_, h2, h3⟩
 rw [Lib.byteCells_append]
 exact h1
theorem keptB {w w' : World} {b g : Nat} {C : Array Value} {T : TypeId} {z : Nat × Nat} (h : Lib.OthersKept 5 (some b) w w') (hg : w.heap[g]? = some (.cells C T z)) (hne : g ≠ b) (hT : T ≠ 5) : w'.heap[g]? = some (.cells C T z) :=
 h g _ hg (fun e => hne (by simpa using e)) (fun c fz e => by
  simp only [Obj.cells.injEq] at e
  exact hT e.2.1)
theorem text_any (args : Nat) (bks : List Code.Blk) (p : Option Addr) (c : Nat) (w : World) (hf : RepBlks w 0 (.slice p bks.length c) bks) (hg : Code.NiceB bks) (ha : args < 1000) (hi : TabI w) (ht : Tab w) :
  Calls Tryz.prog 39 #[.agg #[.int .i64 (args : Nat), .slice p bks.length c]] w fun e w' => e = .returned (.string (bs (Code.wrF args bks))) /\ Below w.heap.size w w' := by
 have HLEN := hide (hg.text ha)
 have HG := hide hg
 have HI := hide hi
 have HT := hide ht
 have HA := hide (one_in ha)
 have hn := hg.few
 obtain ⟨p', c', hpe, hblk⟩ := hf.open
 simp only [Value.slice.injEq] at hpe
 obtain ⟨rfl, _, rfl⟩ := hpe
 have HBLK := hide hblk
 clear hblk hf hg hi ht ha
 go_enter Tryz.func39, Tryz.ntmps39
 go_wp2_with fail
 refine (numbered_one [102, 117, 110, 99, 32] args HA.out (by decide) _ _ (by rw [alloc_size, alloc_size]) (HI.out.below (below_al (below_al (Below.refl _ _) _) _))).mono ?_
 rintro e w1 ⟨rfl, hb2⟩
 have hb1 : Below w.heap.size w w1 := unalB (unalB hb2)
 have hbox : w1.heap[w.heap.size]? = some (.cells #[.int .i64 (args : Nat), .slice p bks.length c] 78) := by
  have h := heap_alloc_new w (.cells #[.int .i64 (args : Nat), .slice p bks.length c] 78)
  have h2 := stay_alloc (p := .cells #[.pointer none, .slice none 0 0] 155) h
  exact (hb2.block _ (lt_of_block h2)).trans h2
 have hbr : BuildR w.heap.size (w.heap.size + 1) [] w1 := by
  have h := heap_alloc_new (w.alloc (.cells #[.int .i64 (args : Nat), .slice p bks.length c] 78)) (.cells #[.pointer none, .slice none 0 0] 155)
  rw [alloc_size] at h
  refine Or.inl ⟨by omega, .slice none 0 0, (hb2.block _ (lt_of_block h)).trans h, World.ownsRowF_nil _ _ _ _, by simp [Value.ownBlock]⟩
 have HBR := hide hbr
 have HBOX := hide hbox
 have HW : Hid (Code.preB args bks 0 = _) := hide (Code.preB_zero args bks)
 have HL0 := hide (Code.preB_le args bks 0)
 rw [HW.out] at HL0
 clear hbr hbox hb2
 have hNs := numb_size [102, 117, 110, 99, 32] args HA.out (by decide)
 generalize Code.numb [102, 117, 110, 99, 32] [(args : Int)] = N at *
 have HE : Hid (bs N ++ ({ data := #[10] } : ByteArray) = bs (N ++ [10])) := hide (bs_append N [10])
 generalize bs N = Nb at *
 have hNs' : Nb.size + 1 <= 9223372036854775807 := by omega
 go_wp2_with fail
 rw [HE.out]
 refine (write_any w.heap.size (w.heap.size + 1) [] (N ++ [10]) w1 HBR.out (Nat.le_trans HL0.out HLEN.out) hb1.size).mono ?_
 rintro e w2 ⟨⟨n2, rfl⟩, hbr2, hbw2, hk2⟩
 rw [List.nil_append, <- HW.out] at hbr2
 have hbox2 := keptB hk2 HBOX.out (by omega) (by decide)
 have q1 := blk_cell hbox2 1 _ rfl
 have hb2 : Below w.heap.size w w2 := hb1.trans hbw2
 clear hbw2 hk2 hbox2 HBR HBOX HW HL0
 go_wp2_with fail
 go_loopw [17] (fun i wr => ∃ (j : Nat), j <= bks.length /\ i = .int .i64 j /\ BuildR w.heap.size (w.heap.size + 1) (Code.preB args bks j) wr /\ Below w.heap.size w wr) (fun i _ => bks.length - (intOf i).toNat)
 case atStart => exact ⟨0, by omega, rfl, hbr2, hb2⟩
 case round =>
  obtain ⟨j, hj, rfl, hbr, hbw⟩ := hrel
  clear hb2 hbr2 hb1 q1
  have hz := hbw.size
  by_cases hlt : j < bks.length
  ·obtain ⟨g, vs, rfl, hg, c0, c1, hvs⟩ := HBLK.out j hlt
   have hjb : bks[j]? = some bks[j] := List.getElem?_eq_getElem hlt
   have hvl := HG.out.short bks[j] (List.getElem_mem hlt)
   have HGV := hide (HG.out.vals bks[j] (List.getElem_mem hlt))
   have HGL := hide (HG.out.lasts bks[j] (List.getElem_mem hlt))
   have HPS := hide (fun (k : Nat) (hk : bks[j].values.length <= k) => Code.preB_succ args hjb hk)
   have HPV := hide (Code.preV_le args hjb)
   have HPB := hide (Code.preB_le args bks (j + 1))
   have HPZ := hide (Code.preV_zero args bks j bks[j].values)
   have HPN := hide (fun (k : Nat) (v : Code.Val) (h : bks[j].values[k]? = some v) => Code.preV_succ args bks j h)
   obtain ⟨pv, cv, rfl, hval⟩ := hvs.open
   have c0' := bcell' (hbw) g _ hg _ c0
   obtain ⟨T, zv, hzv⟩ := lastV_shape bks[j].last
   have HUL : Hid (∀ w1, Below w.heap.size w w1 -> Calls Tryz.prog 82 #[lastV bks[j].last] w1 fun e w' => e = .returned (.string (bs (Code.wrL bks[j].last))) /\ Below w1.heap.size w1 w') := hide fun w1 h1 => lastText_any bks[j].last w1 HGL.out (HI.out.below (h1))
   rw [hzv] at c1 HUL
   have c1' := bcell' (hbw) g _ hg _ c1
   have HJ := hide (one_in (x := j) (by omega))
   have hLTs : (bs (Code.wrL bks[j].last)).size <= 1000 := by rw [bs_size]; exact Code.wrL_len HGL.out
   generalize bks[j].values = vals at *
   generalize Code.wrL bks[j].last = LT at *
   have HV := hide hval
   clear hval c0 c1 hvs hzv hjb HGL
   rename World => wo
   go_wp2_with fail
   refine (numbered_one [98] j HJ.out (by decide) _ _ (by rw [alloc_size]) (HI.out.below (below_al hbw _))).mono ?_
   rintro e w3 ⟨rfl, hb3a⟩
   have hk3 : w3.heap[wo.heap.size]? = some (.cells #[.slice pv vals.length cv, .iface T zv] 165) := by
    have h := heap_alloc_new wo (.cells #[.slice pv vals.length cv, .iface T zv] 165)
    exact (hb3a.block _ (lt_of_block h)).trans h
   have hb3 : Below wo.heap.size wo w3 := unalB hb3a
   have hbr3 := hbr.below hb3
   have hlb := lt_of_block hk3
   generalize hgB : wo.heap.size = gB at *
   have hgne : gB ≠ w.heap.size + 1 := by
    rcases hbr with ⟨_, _, h, _⟩ | ⟨_, _, h, _⟩ <;> (have := lt_of_block h; omega)
   have hbw3 : Below w.heap.size w w3 := hbw.trans (hb3.mono (by omega))
   have HP1 := hide (HPV.out 0)
   rw [HPZ.out] at HP1
   clear hb3a c0' c1' hbr hbw
   have hNJs := numb_size [98] j HJ.out (by decide)
   generalize Code.numb [98] [(j : Int)] = NJ at *
   have HEJ : Hid (bs NJ ++ ({ data := #[58, 10] } : ByteArray) = bs (NJ ++ [58, 10])) := hide (bs_append NJ [58, 10])
   generalize bs NJ = NJb at *
   have hNJs' : NJb.size + 2 <= 9223372036854775807 := by omega
   go_wp2_with fail
   rw [HEJ.out]
   refine (write_any w.heap.size (w.heap.size + 1) _ (NJ ++ [58, 10]) w3 hbr3 (Nat.le_trans HP1.out HLEN.out) (by have := hbw3.size; omega)).mono ?_
   rintro e w4 ⟨⟨n4, rfl⟩, hbr4, hbw4, hk4⟩
   rw [<- HPZ.out] at hbr4
   have hkb4 := keptB hk4 hk3 hgne (by decide)
   have q0 := blk_cell hkb4 0 _ rfl
   have hb4 : Below w.heap.size w w4 := hbw3.trans hbw4
   clear hk4 hbw4 hbw3 hbr3 hk3 hb3 HP1 HPZ
   go_wp2_with fail
   go_loopw [30] (fun i ws => ∃ (k : Nat), k <= vals.length /\ i = .int .i64 k /\ BuildR w.heap.size (w.heap.size + 1) (Code.preV args bks j vals k) ws /\ ws.heap[gB]? = some (.cells #[.slice pv vals.length cv, .iface T zv] 165) /\ Below w.heap.size w ws) (fun i _ => vals.length - (intOf i).toNat)
   case atStart => exact ⟨0, by omega, rfl, hbr4, hkb4, hb4⟩
   case round =>
    obtain ⟨k, hk, rfl, hbr, hkb, hbs⟩ := hrel
    clear hb4 hkb4 hbr4 q0
    have hzs := hbs.size
    have hlB := lt_of_block hkb
    by_cases hkt : k < vals.length
    ·obtain ⟨g2, th, rfl, hg2, d0, d1, hth⟩ := HV.out k hkt
     have d0' := bcell' (hbs) g2 _ hg2 _ d0
     have d1' := bcell' (hbs) g2 _ hg2 _ d1
     have HGK := hide (HGV.out vals[k] (List.getElem_mem hkt))
     have HTX : Hid (∀ w1, Below w.heap.size w w1 -> Calls Tryz.prog 81 #[th] w1 fun e w' => e = .returned (.string (bs (Code.wrT vals[k].thing))) /\ Below w1.heap.size w1 w') := hide fun w1 h1 => thingText_any vals[k].thing th w1 (hth.mono (fun _ _ _ h' => own_below h' (h1))) HGK.out.2 (HI.out.below (h1)) (HT.out.below (h1))
     have HSV := hide (HPN.out k vals[k] (List.getElem?_eq_getElem hkt))
     have HLV := hide (HPV.out (k + 1))
     rw [HSV.out] at HLV
     have HX := hide (one_in (x := vals[k].num) (by have := HGK.out.1; omega))
     obtain ⟨T', tv, rfl⟩ := hth.shape
     unfold Code.wrV at HSV HLV
     have hTTs : (bs (Code.wrT vals[k].thing)).size <= 2400000 := by rw [bs_size]; exact Code.wrT_len HGK.out.2
     clear d0 d1 hth HGK
     generalize vals[k].num = x at *
     generalize Code.wrT vals[k].thing = TT at *
     have HNX : Hid (∀ w1 sl, IntsAt w1 sl [(x : Int)] -> TabI w1 -> Calls Tryz.prog 80 #[.string (bs [118]), sl] w1 fun e w' => e = .returned (.string (bs (Code.numb [118] [(x : Int)]))) /\ Below w1.heap.size w1 w') := hide fun w1 sl hs ht => numbered_any [118] [(x : Int)] sl w1 hs (by simpa using HX.out) (by simp) (by decide) ht
     have hXs := numb_size [118] x HX.out (by decide)
     generalize Code.numb [118] [(x : Int)] = X at *
     have HEV : Hid (bs X ++ ({ data := #[32, 61, 32] } : ByteArray) ++ bs TT ++ ({ data := #[10] } : ByteArray) = bs (X ++ [32, 61, 32] ++ TT ++ [10])) := by
      have e : bs X ++ bs [32, 61, 32] ++ bs TT ++ bs [10] = bs (X ++ [32, 61, 32] ++ TT ++ [10]) := by rw [bs_append, bs_append, bs_append]
      exact hide e
     generalize bs X = Xb at *
     generalize bs TT = TTb at *
     have z1 : Xb.size + 3 <= 9223372036854775807 := by omega
     have z2 : Xb.size + 3 + TTb.size <= 9223372036854775807 := by omega
     have z3 : Xb.size + 3 + TTb.size + 1 <= 9223372036854775807 := by omega
     clear hXs hTTs HX
     go_wp2_with fail
     generalize hw9 : wr.alloc _ = w9
     have hb9 : Below wr.heap.size wr w9 := by rw [<- hw9]; exact below_al (Below.refl _ _) _
     have hx9 : w9.heap[wr.heap.size]? = some (.cells #[.int .i64 (x : Nat), .iface T' tv] 169) := by rw [<- hw9]; exact heap_alloc_new wr _
     have hgv : wr.heap.size ≠ w.heap.size + 1 := by
      rcases hbr with ⟨_, _, h, _⟩ | ⟨_, _, h, _⟩ <;> (have := lt_of_block h; omega)
     have hgvB : wr.heap.size ≠ gB := by omega
     have hbr9 := hbr.below hb9
     have hkb9 := (hb9.block _ hlB).trans hkb
     have hbs9 : Below w.heap.size w w9 := hbs.trans (hb9.mono hzs)
     clear hw9 d0' d1' hb9 hbr hkb hbs
     generalize wr.heap.size = gv at *
     have hS : w9.drew.heap[gv]? = some (.cells #[.int .i64 (x : Nat), .iface T' tv] 169) := hx9
     refine wp_region_held_drew (S := fun w' => w'.heap[gv]? = some (.cells #[.int .i64 (x : Nat), .iface T' tv] 169)) (by kernel_rfl) hx9 (fun hHeld => ?_)
     have hbrd : BuildR w.heap.size (w.heap.size + 1) (Code.preV args bks j vals k) w9.drew := hbr9
     have hkbd : w9.drew.heap[gB]? = _ := hkb9
     have hbsd : Below w.heap.size w w9.drew := hbs9.drew
     generalize w9.drew = wd at *
     clear hx9 hHeld hbr9 hkb9 hbs9
     refine wpAnyH_take (i := 0) (v := .pointer (some ⟨gv, 0, none⟩)) rfl (by kernel_rfl) (by kernel_rfl) (by kernel_rfl) (fun _ _ _ h => h) (Or.inl ⟨by rfl, fun w' h => by  go_simp⟩) hS ?_
     try simp only [Act.put, zz]
     refine wpAnyH_take (i := 1) (v := .int .i64 (x : Nat)) rfl (by kernel_rfl) (by kernel_rfl) (by kernel_rfl) (fun _ _ _ h => h) (Or.inl ⟨by rfl, fun w' h => by have r0 := blk_cell h 0 _ rfl; go_simp⟩) hS ?_
     try simp only [Act.put, zz]
     refine wpAnyH_take (i := 5) (v := .pointer (some ⟨gv, 1, none⟩)) rfl (by kernel_rfl) (by kernel_rfl) (by kernel_rfl) (fun _ _ _ h => h) (Or.inl ⟨by rfl, fun w' h => by  go_simp⟩) hS ?_
     try simp only [Act.put, zz]
     refine wpAnyH_take (i := 6) (v := .iface T' tv) rfl (by kernel_rfl) (by kernel_rfl) (by kernel_rfl) (fun _ _ _ h => h) (Or.inl ⟨by rfl, fun w' h => by have r0 := blk_cell h 1 _ rfl; go_simp⟩) hS ?_
     try simp only [Act.put, zz]
     refine wpAnyH_ready (rs := [2]) (by kernel_rfl) (by simp) ?_
     refine AllReadyH.cons rfl (fun K hK => ?_) AllReadyH.nil
     rw [if_pos (by rfl)]
     go_wp2_with fail
     have hSa := stay_alloc (p := .cells #[.int .i64 (x : Nat)] 3) hS
     have hIa := IntsAt.one wd 3 (x : Int)
     have hbra := hbrd.below (below_al (Below.refl _ _) (.cells #[.int .i64 (x : Nat)] 3))
     have hkba := stay_alloc (p := .cells #[.int .i64 (x : Nat)] 3) hkbd
     have hba : Below w.heap.size w (wd.alloc (.cells #[.int .i64 (x : Nat)] 3)) := below_al hbsd _
     generalize wd.alloc (.cells #[.int .i64 (x : Nat)] 3) = wa at *
     generalize wd.heap.size = g1 at *
     clear hS hbrd hkbd hbsd
     refine hK.out _ _ hSa (fun hHeld => ?_)
     clear hK K
     try simp only [Act.put, zz]
     refine wpAnyH_ready (rs := [3]) (by kernel_rfl) (by simp) ?_
     refine AllReadyH.cons rfl (fun K hK => ?_) AllReadyH.nil
     rw [if_pos (by rfl)]
     go_wp2_with fail
     refine (HNX.out _ _ hIa (HI.out.below hba)).mono ?_
     rintro e w5 ⟨rfl, hb5⟩
     have hS5 := (hb5.block _ (lt_of_block hSa)).trans hSa
     have hbr5 := hbra.below hb5
     have hkb5 := (hb5.block _ (lt_of_block hkba)).trans hkba
     have hbw5 := hba.trans (hb5.mono hba.size)
     clear hb5 hSa hbra hkba hba hIa
     refine hK.out _ _ hS5 (fun hHeld => ?_)
     clear hK K
     try simp only [Act.put, zz]
     refine wpAnyH_take (i := 4) (v := .string (Xb ++ ({ data := #[32, 61, 32] } : ByteArray))) rfl (by kernel_rfl) (by kernel_rfl) (by kernel_rfl) (fun _ _ _ h => h) (Or.inl ⟨by rfl, fun w' h => by  go_simp⟩) hS5 ?_
     try simp only [Act.put, zz]
     refine wpAnyH_ready (rs := [7]) (by kernel_rfl) (by simp) ?_
     refine AllReadyH.cons rfl (fun K hK => ?_) AllReadyH.nil
     rw [if_pos (by rfl)]
     go_wp2_with fail
     refine (HTX.out _ hbw5).mono ?_
     rintro e w6 ⟨rfl, hb6⟩
     have hS6 := (hb6.block _ (lt_of_block hS5)).trans hS5
     have hbr6 := hbr5.below hb6
     have hkb6 := (hb6.block _ (lt_of_block hkb5)).trans hkb5
     have hbw6 := hbw5.trans (hb6.mono hbw5.size)
     clear hb6 hS5 hbr5 hkb5 hbw5
     refine hK.out _ _ hS6 (fun hHeld => ?_)
     clear hK K
     try simp only [Act.put, zz]
     refine wpAnyH_take (i := 8) (v := .string (Xb ++ ({ data := #[32, 61, 32] } : ByteArray) ++ TTb)) rfl (by kernel_rfl) (by kernel_rfl) (by kernel_rfl) (fun _ _ _ h => h) (Or.inl ⟨by rfl, fun w' h => by  go_simp⟩) hS6 ?_
     try simp only [Act.put, zz]
     refine wpAnyH_take (i := 9) (v := .string (Xb ++ ({ data := #[32, 61, 32] } : ByteArray) ++ TTb ++ ({ data := #[10] } : ByteArray))) rfl (by kernel_rfl) (by kernel_rfl) (by kernel_rfl) (fun _ _ _ h => h) (Or.inl ⟨by rfl, fun w' h => by  go_simp⟩) hS6 ?_
     try simp only [Act.put, zz]
     refine wpAnyH_ready (rs := [10]) (by kernel_rfl) (by simp) ?_
     refine AllReadyH.cons rfl (fun K hK => ?_) AllReadyH.nil
     rw [if_pos (by rfl)]
     go_wp2_with fail
     rw [HEV.out]
     refine (write_any w.heap.size (w.heap.size + 1) _ (X ++ [32, 61, 32] ++ TT ++ [10]) w6 hbr6 (Nat.le_trans HLV.out HLEN.out) hbw6.size).mono ?_
     rintro e w7 ⟨⟨n7, rfl⟩, hbr7, hbw7, hk7⟩
     rw [<- HSV.out] at hbr7
     have hS7 := keptB hk7 hS6 hgv (by decide)
     have hkb7 := keptB hk7 hkb6 hgne (by decide)
     have hb7 : Below w.heap.size w w7 := hbw6.trans hbw7
     refine hK.out _ _ hS7 (fun hHeld => ?_)
     clear hK K
     try simp only [Act.put, zz]
     refine wpAnyH_done (by kernel_rfl) ?_ _
     go_wp2
     exact ⟨⟨k + 1, by omega, by go_num, hbr7, hkb7, hb7⟩, by simp [intOf]; omega⟩
    ·have HE2 := hide (HPS.out k (by omega))
     rw [HE2.out] at HPB
     have q1 := blk_cell hkb 1 _ rfl
     clear HV
     go_wp2_with fail
     refine (HUL.out wr hbs).mono ?_
     rintro e w5 ⟨rfl, hb5⟩
     have hbr5 := hbr.below hb5
     have hbw5 := hbs.trans (hb5.mono hzs)
     have HEL : Hid (bs LT ++ ({ data := #[10] } : ByteArray) = bs (LT ++ [10])) := hide (bs_append LT [10])
     generalize bs LT = LTb at *
     have z1 : LTb.size + 1 <= 9223372036854775807 := by omega
     go_wp2_with fail
     rw [HEL.out]
     refine (write_any w.heap.size (w.heap.size + 1) _ (LT ++ [10]) w5 hbr5 (Nat.le_trans HPB.out HLEN.out) hbw5.size).mono ?_
     rintro e w7 ⟨⟨n7, rfl⟩, hbr7, hbw7, hk7⟩
     rw [<- HE2.out] at hbr7
     have hb7 : Below w.heap.size w w7 := hbw5.trans hbw7
     go_wp2
     exact ⟨⟨j + 1, by omega, by go_num, hbr7, hb7⟩, by simp [intOf]; omega⟩
  ·have hpre := Code.preB_all args bks j (by omega)
   rw [hpre] at hbr
   have HS := hide (builderString_any w.heap.size (w.heap.size + 1) (Code.wrF args bks) wr hbr hbw.size)
   clear hpre
   go_wp2_with fail
   refine HS.out.mono ?_
   rintro e w9 ⟨rfl, hbr9, hb9, hk9⟩
   go_wp2
   go_ret
   exact ⟨rfl, hbw.trans hb9⟩
open Go.Proofs.YtedkjanogjglkaaGreatDoor.Code (RTree Nm RSt Prs CRule)
namespace Code
mutual
theorem numR_fine {th : Nat -> Option Thing} (hok : ThOk th) (kn : Known) : ∀ (t : RTree), t.fine -> -2147483648 <= numR th kn t /\ numR th kn t < 2147483648
 | .num c, h => by
  simp only [numR]
  exact h
 | .name x, _ => by simp [numR]
 | .op k l, _ => by simp [numR]
 | .hash x, _ => by
  simp only [numR]
  exact constOf_32 hok _
 | .fold k kids, h => by
  obtain ⟨hk, hl, hts⟩ := h
  simp only [numR]
  have hr := opOf_range k hk
  have hall := numsR_fine hok kn kids hts
  have hnl := numsR_length th kn kids
  have hne : numsR th kn kids ≠ [] := by
   intro h0
   rw [h0] at hnl
   simp at hnl
   omega
  have h1 : (numsR th kn kids).headD 0 ∈ numsR th kn kids := by
   cases hc : numsR th kn kids with
   | nil => exact absurd hc hne
   | cons a b => simp
  have h2 : (numsR th kn kids).getLastD 0 ∈ numsR th kn kids := by
   rw [List.getLastD_eq_getLast?, List.getLast?_eq_some_getLast hne]
   exact List.getLast_mem hne
  cases hc : reckon k ((numsR th kn kids).headD 0) ((numsR th kn kids).getLastD 0) with
  | none => simp
  | some n => exact reckon_in32 hc (hall _ h1) (hall _ h2)
theorem numsR_fine {th : Nat -> Option Thing} (hok : ThOk th) (kn : Known) : ∀ (l : List RTree), fineAll l -> ∀ x ∈ numsR th kn l, -2147483648 <= x /\ x < 2147483648
 | [], _, x, hx => by simp [numsR] at hx
 | t :: l, h, x, hx => by
  simp only [numsR, List.mem_cons] at hx
  rcases hx with hx | hx
  ·rw [hx]; exact numR_fine hok kn t h.1
  ·exact numsR_fine hok kn l h.2 x hx
end
theorem free_ge (th : Nat -> Option Thing) : ∀ (f n : Nat), n <= free th f n
 | 0, n => Nat.le_refl n
 | f + 1, n => by
  rw [free]
  split
  ·exact Nat.le_trans (Nat.le_succ n) (free_ge th f (n + 1))
  ·exact Nat.le_refl n
theorem free_none (th : Nat -> Option Thing) : ∀ (f n : Nat), 60 - n <= f -> free th f n < 60 -> th (free th f n) = none
 | 0, n, h, h' => by rw [free] at h'; omega
 | f + 1, n, h, h' => by
  rw [free] at h' ⊢
  split
  ·rename_i hc
   rw [if_pos hc] at h'
   exact free_none th f (n + 1) (by omega) h'
  ·rename_i hc
   rw [if_neg hc] at h'
   cases ht : th n with
   | none => rfl
   | some t => exact absurd ⟨h', by rw [ht]; rfl⟩ hc
theorem freeFrom_ge (th : Nat -> Option Thing) (n : Nat) : n <= freeFrom th n := free_ge th 60 n
theorem freeFrom_none (th : Nat -> Option Thing) (n : Nat) (h : freeFrom th n < 60) : th (freeFrom th n) = none := free_none th 60 n (by omega) h
def MadeT (n : Nat) : Thing -> Prop
 | .const c => -2147483648 <= c /\ c < 2147483648
 | .apply k of => k < 13 /\ of.length = opOf k /\ ∀ x ∈ of, x < 60 \/ x < n
 | _ => False
theorem MadeT.mono {n m : Nat} {t : Thing} (h : MadeT n t) (hm : n <= m) : MadeT m t := by
 cases t with
 | const c => exact h
 | apply k of => exact ⟨h.1, h.2.1, fun x hx => (h.2.2 x hx).imp id (fun h => by omega)⟩
 | phi _ => exact h
 | arg _ => exact h
structure MkInv (th : Nat -> Option Thing) (m : Mk) : Prop where
 once : (m.made.map Val.num).Nodup
 low : ∀ v ∈ m.made, v.num < m.next
 new : ∀ v ∈ m.made, v.num < 60 -> th v.num = none
 made : ∀ v ∈ m.made, MadeT m.next v.thing
theorem MkInv.put {th : Nat -> Option Thing} {m : Mk} (h : MkInv th m) {t : Thing} (ht : MadeT m.next t) : MkInv th (m.put th t).2 /\ m.next <= (m.put th t).2.next /\ (m.put th t).1 < (m.put th t).2.next := by
 have hg := freeFrom_ge th m.next
 unfold Mk.put
 refine ⟨⟨?_, ?_, ?_, ?_⟩, by simp only; omega, by simp only; omega⟩
 ·simp only [List.map_append, List.map_cons, List.map_nil]
  rw [List.nodup_append]
  refine ⟨h.once, by simp, fun a ha b hb => ?_⟩
  simp only [List.mem_cons, List.not_mem_nil, or_false] at hb
  obtain ⟨v, hv, rfl⟩ := List.mem_map.1 ha
  have := h.low v hv
  omega
 ·intro v hv
  rcases List.mem_append.1 hv with hv | hv
  ·have := h.low v hv
   simp only; omega
  ·simp only [List.mem_cons, List.not_mem_nil, or_false] at hv
   subst hv
   simp only; omega
 ·intro v hv h60
  rcases List.mem_append.1 hv with hv | hv
  ·exact h.new v hv h60
  ·simp only [List.mem_cons, List.not_mem_nil, or_false] at hv
   subst hv
   exact freeFrom_none th _ h60
 ·intro v hv
  rcases List.mem_append.1 hv with hv | hv
  ·exact (h.made v hv).mono (by simp only; omega)
  ·simp only [List.mem_cons, List.not_mem_nil, or_false] at hv
   subst hv
   exact ht.mono (by simp only; omega)
mutual
theorem mkVal_inv {th : Nat -> Option Thing} (hok : ThOk th) (kn : Known) : ∀ (t : RTree) (m : Mk), t.fine -> (∀ p ∈ t.names, knownV kn p.1 < 60) -> MkInv th m -> MkInv th (mkVal th kn t m).2 /\ m.next <= (mkVal th kn t m).2.next /\ ((mkVal th kn t m).1 < 60 \/ (mkVal th kn t m).1 < (mkVal th kn t m).2.next)
 | .name x, m, _, hb, hm => ⟨hm, Nat.le_refl _, Or.inl (hb (x, false) (by simp [RTree.names]))⟩
 | .hash x, m, hf, _, hm => by
  obtain ⟨h1, h2, h3⟩ := hm.put (t := .const (numR th kn (.hash x))) (numR_fine hok kn _ hf)
  exact ⟨h1, h2, Or.inr h3⟩
 | .num c, m, hf, _, hm => by
  obtain ⟨h1, h2, h3⟩ := hm.put (t := .const (numR th kn (.num c))) (numR_fine hok kn _ hf)
  exact ⟨h1, h2, Or.inr h3⟩
 | .fold k l, m, hf, _, hm => by
  obtain ⟨h1, h2, h3⟩ := hm.put (t := .const (numR th kn (.fold k l))) (numR_fine hok kn _ hf)
  exact ⟨h1, h2, Or.inr h3⟩
 | .op k kids, m, hf, hb, hm => by
  obtain ⟨a1, a2, a3, a4⟩ := mkAll_inv hok kn kids m hf.2.2 (by simpa [RTree.names] using hb) hm
  obtain ⟨h1, h2, h3⟩ := a1.put (t := .apply k (mkAll th kn kids m).1) ⟨hf.1, by rw [a4]; exact hf.2.1, a3⟩
  exact ⟨h1, Nat.le_trans a2 h2, Or.inr h3⟩
theorem mkAll_inv {th : Nat -> Option Thing} (hok : ThOk th) (kn : Known) : ∀ (l : List RTree) (m : Mk), fineAll l -> (∀ p ∈ namesAll l, knownV kn p.1 < 60) -> MkInv th m -> MkInv th (mkAll th kn l m).2 /\ m.next <= (mkAll th kn l m).2.next /\ (∀ x ∈ (mkAll th kn l m).1, x < 60 \/ x < (mkAll th kn l m).2.next) /\ (mkAll th kn l m).1.length = l.length
 | [], m, _, _, hm => ⟨hm, Nat.le_refl _, by simp [mkAll], rfl⟩
 | t :: l, m, hf, hb, hm => by
  obtain ⟨h1, h2, h3⟩ := mkVal_inv hok kn t m hf.1 (fun p hp => hb p (by simp [namesAll, hp])) hm
  obtain ⟨a1, a2, a3, a4⟩ := mkAll_inv hok kn l (mkVal th kn t m).2 hf.2 (fun p hp => hb p (by simp [namesAll, hp])) h1
  simp only [mkAll]
  refine ⟨a1, Nat.le_trans h2 a2, fun x hx => ?_, by simp [a4]⟩
  rcases List.mem_cons.1 hx with hx | hx
  ·subst hx
   exact h3.imp id (fun h => by omega)
  ·exact a3 x hx
end
theorem mkThing_inv {th : Nat -> Option Thing} (hok : ThOk th) (kn : Known) (t : RTree) (ht : ∀ x, t ≠ .name x) (m : Mk) (hf : t.fine) (hb : ∀ p ∈ t.names, knownV kn p.1 < 60) (hm : MkInv th m) : MkInv th (mkThing th kn t m).2 /\ m.next <= (mkThing th kn t m).2.next /\ MadeT (mkThing th kn t m).2.next (mkThing th kn t m).1 := by
 cases t with
 | name x => exact absurd rfl (ht x)
 | hash x => exact ⟨hm, Nat.le_refl _, numR_fine hok kn _ hf⟩
 | num c => exact ⟨hm, Nat.le_refl _, numR_fine hok kn _ hf⟩
 | fold k l => exact ⟨hm, Nat.le_refl _, numR_fine hok kn _ hf⟩
 | op k kids =>
  obtain ⟨a1, a2, a3, a4⟩ := mkAll_inv hok kn kids m hf.2.2 (by simpa [RTree.names] using hb) hm
  exact ⟨a1, a2, hf.1, by rw [a4]; exact hf.2.1, a3⟩
theorem MkInv.nil (th : Nat -> Option Thing) : MkInv th ⟨[], 0⟩ := ⟨by simp, by simp, by simp, by simp⟩
theorem MadeT.good {n : Nat} {t : Thing} (h : MadeT n t) (hn : n <= 60) : NiceT t := by
 cases t with
 | const c => exact h
 | apply k of => exact ⟨h.1, h.2.1, fun x hx => (h.2.2 x hx).elim id (fun h => by omega)⟩
 | phi _ => exact h.elim
 | arg _ => exact h.elim
def SubB : List Blk -> List Blk -> Prop
 | [], [] => True
 | a :: l, b :: m => a.last = b.last /\ a.values.Sublist b.values /\ SubB l m
 | _, _ => False
theorem SubB.refl : ∀ l : List Blk, SubB l l
 | [] => trivial
 | _ :: l => ⟨rfl, List.Sublist.refl _, SubB.refl l⟩
theorem SubB.trans : ∀ {a b c : List Blk}, SubB a b -> SubB b c -> SubB a c
 | [], [], [], _, _ => trivial
 | _ :: _, _ :: _, _ :: _, h, k => ⟨h.1.trans k.1, h.2.1.trans k.2.1, SubB.trans h.2.2 k.2.2⟩
theorem SubB.flat : ∀ {a b : List Blk}, SubB a b -> (a.flatMap Blk.values).Sublist (b.flatMap Blk.values)
 | [], [], _ => List.Sublist.refl _
 | _ :: _, _ :: _, h => by
  rw [List.flatMap_cons, List.flatMap_cons]
  exact h.2.1.append (SubB.flat h.2.2)
theorem SubB.length : ∀ {a b : List Blk}, SubB a b -> a.length = b.length
 | [], [], _ => rfl
 | _ :: _, _ :: _, h => by simp [SubB.length h.2.2]
theorem SubB.mem : ∀ {a b : List Blk}, SubB a b -> ∀ x ∈ a, ∃ y ∈ b, x.last = y.last /\ x.values.Sublist y.values
 | [], [], _, x, hx => by cases hx
 | a :: _, b :: _, h, x, hx => by
  rcases List.mem_cons.1 hx with hx | hx
  ·subst hx; exact ⟨b, List.mem_cons_self .., h.1, h.2.1⟩
  ·obtain ⟨y, hy, h1⟩ := SubB.mem h.2.2 x hx
   exact ⟨y, List.mem_cons_of_mem _ hy, h1⟩
theorem SubB.sweep1 (u : List Blk) : ∀ l : List Blk, SubB (l.map fun b => (⟨b.values.filter (keepsV u), b.last⟩ : Blk)) l
 | [] => trivial
 | _ :: l => ⟨rfl, List.filter_sublist, SubB.sweep1 u l⟩
theorem SubB.sweepF : ∀ (n : Nat) (bks : List Blk), SubB (sweepF n bks) bks
 | 0, bks => SubB.refl _
 | n + 1, bks => by
  rw [Code.sweepF]
  split
  ·exact SubB.sweep1 bks bks
  ·exact (SubB.sweepF n _).trans (SubB.sweep1 bks bks)
theorem SubB.sweep (bks : List Blk) : SubB (Code.sweep bks) bks := SubB.sweepF _ _
theorem NiceB.sub {a b : List Blk} (h : NiceB b) (hs : SubB a b) : NiceB a := by
 refine ⟨by rw [hs.length]; exact h.few, fun x hx => ?_, fun x hx v hv => ?_, fun x hx => ?_⟩
 ·obtain ⟨y, hy, _, h2⟩ := hs.mem x hx
  exact Nat.le_trans h2.length_le (h.short y hy)
 ·obtain ⟨y, hy, _, h2⟩ := hs.mem x hx
  exact h.vals y hy v (h2.subset hv)
 ·obtain ⟨y, hy, h1, _⟩ := hs.mem x hx
  rw [h1]; exact h.lasts y hy
theorem OnceN.sub {a b : List Blk} (h : OnceN b) (hs : SubB a b) : OnceN a := List.Nodup.sublist (hs.flat.map _) h
theorem renB_good {a b : Nat} (hb : b < 60) {bks : List Blk} (h : NiceB bks) : NiceB (renB a b bks) := by
 have hren : ∀ x, x < 60 -> renN a b x < 60 := by
  intro x hx
  unfold renN
  split <;> assumption
 unfold renB
 refine ⟨by simpa using h.few, fun x hx => ?_, fun x hx v hv => ?_, fun x hx => ?_⟩
 ·obtain ⟨y, hy, rfl⟩ := List.mem_map.1 hx
  simpa using h.short y hy
 ·obtain ⟨y, hy, rfl⟩ := List.mem_map.1 hx
  obtain ⟨u, hu, rfl⟩ := List.mem_map.1 hv
  obtain ⟨h1, h2⟩ := h.vals y hy u hu
  refine ⟨h1, ?_⟩
  simp only
  cases ht : u.thing with
  | phi of =>
   rw [ht] at h2
   refine ⟨by simpa using h2.1, fun x hx => ?_⟩
   obtain ⟨z, hz, rfl⟩ := List.mem_map.1 hx
   exact hren z (h2.2 z hz)
  | apply k of =>
   rw [ht] at h2
   refine ⟨h2.1, by simpa using h2.2.1, fun x hx => ?_⟩
   obtain ⟨z, hz, rfl⟩ := List.mem_map.1 hx
   exact hren z (h2.2.2 z hz)
  | arg k => rw [ht] at h2; exact h2
  | const c => rw [ht] at h2; exact h2
 ·obtain ⟨y, hy, rfl⟩ := List.mem_map.1 hx
  have := h.lasts y hy
  simp only
  cases hl : y.last with
  | ret v => rw [hl] at this; exact hren v this
  | jump t => rw [hl] at this; exact this
  | ifs v x z => rw [hl] at this; exact ⟨hren v this.1, this.2⟩
theorem renB_nums (a b : Nat) (bks : List Blk) : ((renB a b bks).flatMap Blk.values).map Val.num = (bks.flatMap Blk.values).map Val.num := by
 unfold renB
 induction bks with
 | nil => rfl
 | cons k l ih =>
  rw [List.map_cons, List.flatMap_cons, List.flatMap_cons, List.map_append, List.map_append, ih]
  congr 1
  simp [Function.comp_def]
theorem putB_parts {bks : List Blk} {i k : Nat} {b : Blk} {v : Val} (hb : bks[i]? = some b) (hv : b.values[k]? = some v) : ∃ A B, bks.flatMap Blk.values = A ++ v :: B /\ ∀ l, (putB i k l bks).flatMap Blk.values = A ++ l ++ B := by
 obtain ⟨hi, rfl⟩ := List.getElem?_eq_some_iff.1 hb
 obtain ⟨hk, rfl⟩ := List.getElem?_eq_some_iff.1 hv
 refine ⟨(bks.take i).flatMap Blk.values ++ bks[i].values.take k, bks[i].values.drop (k + 1) ++ (bks.drop (i + 1)).flatMap Blk.values, ?_, fun l => ?_⟩
 ·conv => lhs; rw [<- List.take_append_drop i bks, List.drop_eq_getElem_cons hi]
  rw [List.flatMap_append, List.flatMap_cons]
  have e : bks[i].values = bks[i].values.take k ++ bks[i].values[k] :: bks[i].values.drop (k + 1) := by rw [<- List.drop_eq_getElem_cons hk, List.take_append_drop]
  conv => lhs; rw [e]
  simp only [List.append_assoc, List.cons_append]
 ·unfold putB
  rw [List.modify_eq_take_cons_drop hi, List.flatMap_append, List.flatMap_cons]
  simp
theorem putB_good {bks : List Blk} (h : NiceB bks) {i k : Nat} {l : List Val} (hl : ∀ v ∈ l, NiceV v) (hs : l.length <= 100) (hsh : ∀ b ∈ bks, b.values.length <= 900) : NiceB (putB i k l bks) := by
 have hm : ∀ x ∈ putB i k l bks, x ∈ bks \/ ∃ b ∈ bks, x = ⟨b.values.take k ++ l ++ b.values.drop (k + 1), b.last⟩ := by
  intro x hx
  unfold putB at hx
  obtain ⟨j, hj, rfl⟩ := List.getElem_of_mem hx
  rw [List.getElem_modify]
  split
  ·exact Or.inr ⟨_, List.getElem_mem _, rfl⟩
  ·exact Or.inl (List.getElem_mem _)
 refine ⟨by unfold putB; rw [List.length_modify]; exact h.few, fun x hx => ?_, fun x hx v hv => ?_, fun x hx => ?_⟩
 ·rcases hm x hx with hx | ⟨b, hb, rfl⟩
  ·exact h.short x hx
  ·have := hsh b hb
   simp only [List.length_append, List.length_take, List.length_drop]
   omega
 ·rcases hm x hx with hx | ⟨b, hb, rfl⟩
  ·exact h.vals x hx v hv
  ·simp only [List.append_assoc, List.mem_append] at hv
   rcases hv with hv | hv | hv
   ·exact h.vals b hb v (List.mem_of_mem_take hv)
   ·exact hl v hv
   ·exact h.vals b hb v (List.mem_of_mem_drop hv)
 ·rcases hm x hx with hx | ⟨b, hb, rfl⟩
  ·exact h.lasts x hx
  ·exact h.lasts b hb
theorem nodup_put {A B N : List Nat} {v : Nat} (h : (A ++ v :: B).Nodup) (hN : N.Nodup) (hn : ∀ n ∈ N, n = v \/ n ∉ A ++ v :: B) : (A ++ N ++ B).Nodup := by
 rw [List.append_assoc, List.nodup_append] at *
 obtain ⟨h1, h2, h3⟩ := h
 rw [List.nodup_cons] at h2
 refine ⟨h1, ?_, ?_⟩
 ·rw [List.nodup_append]
  refine ⟨hN, h2.2, fun a ha b hb e => ?_⟩
  subst e
  rcases hn a ha with e | e
  ·subst e; exact h2.1 hb
  ·exact e (by simp [hb])
 ·intro a ha b hb e
  subst e
  rcases List.mem_append.1 hb with hb | hb
  ·rcases hn a hb with e | e
   ·subst e; exact h3 a ha a (by simp) rfl
   ·exact e (by simp [ha])
  ·exact h3 a ha a (by simp [hb]) rfl
end Code
end Go.Proofs.YtedkjanogjglkaaGreatDoor
