/-
  Parts of the proof: RTextL, RTextW3, RStepP3.
-/
import Derived.Test.YtedkjanogjglkaaGreatDoorP22
set_option maxRecDepth 100000
set_option maxHeartbeats 8000000
namespace Go.Proofs.YtedkjanogjglkaaGreatDoor
open Go.RowKit
theorem numbered_two (mark : List UInt8) (n m : Int) (hn : -9223372036854775808 <= n /\ n <= 9223372036854775807) (hm : -9223372036854775808 <= m /\ m <= 9223372036854775807) (hmk : mark.length <= 100) (w : World) (sl : Value) (hs : IntsAt w sl [n, m]) (ht : TabI w) :
  Calls Tryz.prog 80 #[.string (bs mark), sl] w fun e w' => e = .returned (.string (bs (Code.numb mark [n, m]))) /\ Below w.heap.size w w' :=
 numbered_any mark [n, m] sl w hs (by intro x hx; simp only [List.mem_cons, List.not_mem_nil, or_false] at hx; rcases hx with rfl | rfl <;> assumption) (by simp) hmk ht
theorem numb_size2 (mark : List UInt8) (n m : Int) (hn : -9223372036854775808 <= n /\ n <= 9223372036854775807) (hm : -9223372036854775808 <= m /\ m <= 9223372036854775807) (hmk : mark.length <= 100) : (bs (Code.numb mark [n, m])).size <= 242 := by
 rw [bs_size]
 have := Code.numb_len mark [n, m] (by intro x hx; simp only [List.mem_cons, List.not_mem_nil, or_false] at hx; rcases hx with rfl | rfl <;> assumption)
 simp at this
 omega
theorem lastText_any (z : Code.Last) (w : World) (hg : Code.NiceL z) (hi : TabI w) :
  Calls Tryz.prog 82 #[lastV z] w fun e w' => e = .returned (.string (bs (Code.wrL z))) /\ Below w.heap.size w w' := by
 cases z with
 | ret n =>
  have t1 := isRet_ret
  unfold lastV
  simp only [Code.wrL]
  have hn := one_in (x := n) (by have : n < 60 := hg; omega)
  have HB := hide (numbered_one [32, 118] n hn (by decide))
  have hNs := numb_size [32, 118] n hn (by decide)
  generalize Code.numb [32, 118] [(n : Int)] = N at *
  rw [<- bs_append]
  generalize bs N = Nb at *
  clear hn hg
  go_enter Tryz.func82, Tryz.ntmps82
  go_wp2_with fail
  refine (HB.out _ _ (by rw [alloc_size]) (hi.below (below_al (Below.refl _ _) _))).mono ?_
  rintro e w1 ⟨rfl, hb1⟩
  go_wp2
  go_ret
  exact ⟨rfl, unalB hb1⟩
 | jump n =>
  have t1 := isRet_jump
  have t2 := isJump_jump
  unfold lastV
  simp only [Code.wrL]
  have hn := one_in (x := n) hg
  have HB := hide (numbered_one [32, 98] n hn (by decide))
  have hNs := numb_size [32, 98] n hn (by decide)
  generalize Code.numb [32, 98] [(n : Int)] = N at *
  rw [<- bs_append]
  generalize bs N = Nb at *
  clear hn hg
  go_enter Tryz.func82, Tryz.ntmps82
  go_wp2_with fail
  refine (HB.out _ _ (by rw [alloc_size]) (hi.below (below_al (Below.refl _ _) _))).mono ?_
  rintro e w1 ⟨rfl, hb1⟩
  go_wp2
  go_ret
  exact ⟨rfl, unalB hb1⟩
 | ifs n x y =>
  have t1 := isRet_if
  have t2 := isJump_if
  have t3 := isIf_if
  unfold lastV
  simp only [Code.wrL]
  have hn := one_in (x := n) (by have : n < 60 := hg.1; omega)
  have hx := one_in (x := x) hg.2.1
  have hy := one_in (x := y) hg.2.2
  have HB : Hid (∀ w1 sl, IntsAt w1 sl [(n : Int)] -> TabI w1 -> Calls Tryz.prog 80 #[.string (bs [32, 118]), sl] w1 fun e w' => e = .returned (.string (bs (Code.numb [32, 118] [(n : Int)]))) /\ Below w1.heap.size w1 w') := hide fun w1 sl hs ht => numbered_any [32, 118] [(n : Int)] sl w1 hs (by simpa using hn) (by simp) (by decide) ht
  have HC := hide (numbered_two [32, 98] x y hx hy (by decide))
  have hNs := numb_size [32, 118] n hn (by decide)
  have hMs := numb_size2 [32, 98] x y hx hy (by decide)
  generalize Code.numb [32, 118] [(n : Int)] = N at *
  generalize Code.numb [32, 98] [(x : Int), (y : Int)] = M at *
  rw [<- bs_append, <- bs_append]
  generalize bs N = Nb at *
  generalize bs M = Mb at *
  have a1 : 2 + Nb.size <= 9223372036854775807 := by omega
  have a2 : 2 + Nb.size + Mb.size <= 9223372036854775807 := by omega
  have HI := hide hi
  clear hn hg hx hy hNs hMs hi
  go_enter Tryz.func82, Tryz.ntmps82
  go_wp2_with fail
  generalize hw0 : w.alloc _ = w0
  have hb0 : Below w.heap.size w w0 := by rw [<- hw0]; exact below_al (Below.refl _ _) _
  have hx0 : w0.heap[w.heap.size]? = some (.cells #[.int .i64 (n : Nat), .int .i64 (x : Nat), .int .i64 (y : Nat)] 244) := by rw [<- hw0]; exact heap_alloc_new w _
  clear hw0
  have hS : w0.drew.heap[w.heap.size]? = some (.cells #[.int .i64 (n : Nat), .int .i64 (x : Nat), .int .i64 (y : Nat)] 244) := hx0
  refine wp_region_held_drew (S := fun w' => w'.heap[w.heap.size]? = some (.cells #[.int .i64 (n : Nat), .int .i64 (x : Nat), .int .i64 (y : Nat)] 244)) (by kernel_rfl) hx0 (fun hHeld => ?_)
  have hbd : Below w.heap.size w w0.drew := hb0.drew
  generalize w0.drew = wd at *
  clear hx0 hHeld hb0
  refine wpAnyH_take (i := 0) (v := .pointer (some ⟨w.heap.size, 0, none⟩)) rfl (by kernel_rfl) (by kernel_rfl) (by kernel_rfl) (fun _ _ _ h => h) (Or.inl ⟨by rfl, fun w' h => by  go_simp⟩) hS ?_
  try simp only [Act.put, zz]
  refine wpAnyH_take (i := 1) (v := .int .i64 (n : Nat)) rfl (by kernel_rfl) (by kernel_rfl) (by kernel_rfl) (fun _ _ _ h => h) (Or.inl ⟨by rfl, fun w' h => by have r0 := blk_cell h 0 _ rfl; go_simp⟩) hS ?_
  try simp only [Act.put, zz]
  refine wpAnyH_take (i := 5) (v := .pointer (some ⟨w.heap.size, 1, none⟩)) rfl (by kernel_rfl) (by kernel_rfl) (by kernel_rfl) (fun _ _ _ h => h) (Or.inl ⟨by rfl, fun w' h => by  go_simp⟩) hS ?_
  try simp only [Act.put, zz]
  refine wpAnyH_take (i := 6) (v := .int .i64 (x : Nat)) rfl (by kernel_rfl) (by kernel_rfl) (by kernel_rfl) (fun _ _ _ h => h) (Or.inl ⟨by rfl, fun w' h => by have r0 := blk_cell h 1 _ rfl; go_simp⟩) hS ?_
  try simp only [Act.put, zz]
  refine wpAnyH_take (i := 7) (v := .pointer (some ⟨w.heap.size, 2, none⟩)) rfl (by kernel_rfl) (by kernel_rfl) (by kernel_rfl) (fun _ _ _ h => h) (Or.inl ⟨by rfl, fun w' h => by  go_simp⟩) hS ?_
  try simp only [Act.put, zz]
  refine wpAnyH_take (i := 8) (v := .int .i64 (y : Nat)) rfl (by kernel_rfl) (by kernel_rfl) (by kernel_rfl) (fun _ _ _ h => h) (Or.inl ⟨by rfl, fun w' h => by have r0 := blk_cell h 2 _ rfl; go_simp⟩) hS ?_
  try simp only [Act.put, zz]
  refine wpAnyH_ready (rs := [2, 9]) (by kernel_rfl) (by simp) ?_
  refine AllReadyH.cons rfl (fun K hK => ?_) (AllReadyH.cons rfl (fun K hK => ?_) AllReadyH.nil)
  ·rw [if_pos (by rfl)]
   go_wp2_with fail
   have hSa := stay_alloc (p := .cells #[.int .i64 (n : Nat)] 3) hS
   have hI := IntsAt.one wd 3 (n : Int)
   have hba : Below w.heap.size w (wd.alloc (.cells #[.int .i64 (n : Nat)] 3)) := below_al hbd _
   generalize wd.alloc (.cells #[.int .i64 (n : Nat)] 3) = wa at *
   generalize wd.heap.size = g1 at *
   refine hK.out _ _ hSa (fun hHeld => ?_)
   clear hK K
   try simp only [Act.put, zz]
   refine wpAnyH_ready (rs := [3, 9]) (by kernel_rfl) (by simp) ?_
   refine AllReadyH.cons rfl (fun K hK => ?_) (AllReadyH.cons rfl (fun K hK => ?_) AllReadyH.nil)
   ·rw [if_pos (by rfl)]
    go_wp2_with fail
    refine (HB.out _ _ hI (HI.out.below hba)).mono ?_
    rintro e w1 ⟨rfl, hb1⟩
    have hS1 := (hb1.block _ (lt_of_block hSa)).trans hSa
    have hbw1 := hba.trans (hb1.mono hba.size)
    refine hK.out _ _ hS1 (fun hHeld => ?_)
    clear hK K
    try simp only [Act.put, zz]
    refine wpAnyH_take (i := 4) (v := .string ((⟨#[105, 102]⟩ : ByteArray) ++ Nb)) rfl (by kernel_rfl) (by kernel_rfl) (by kernel_rfl) (fun _ _ _ h => h) (Or.inl ⟨by rfl, fun w' h => by  go_simp⟩) hS1 ?_
    try simp only [Act.put, zz]
    refine wpAnyH_ready (rs := [9]) (by kernel_rfl) (by simp) ?_
    refine AllReadyH.cons rfl (fun K hK => ?_) AllReadyH.nil
    rw [if_pos (by rfl)]
    go_wp2_with fail
    have hSb := stay_alloc (p := .cells #[.int .i64 (x : Nat), .int .i64 (y : Nat)] 3) hS1
    have hJ := IntsAt.two w1 3 (x : Int) (y : Int)
    have hbb : Below w.heap.size w (w1.alloc (.cells #[.int .i64 (x : Nat), .int .i64 (y : Nat)] 3)) := below_al hbw1 _
    generalize w1.alloc (.cells #[.int .i64 (x : Nat), .int .i64 (y : Nat)] 3) = wb at *
    generalize w1.heap.size = g2 at *
    refine hK.out _ _ hSb (fun hHeld => ?_)
    clear hK K
    try simp only [Act.put, zz]
    refine wpAnyH_ready (rs := [10]) (by kernel_rfl) (by simp) ?_
    refine AllReadyH.cons rfl (fun K hK => ?_) AllReadyH.nil
    rw [if_pos (by rfl)]
    go_wp2_with fail
    refine (HC.out _ _ hJ (HI.out.below hbb)).mono ?_
    rintro e w9 ⟨rfl, hb9⟩
    have hS9 := (hb9.block _ (lt_of_block hSb)).trans hSb
    have hbe : Below w.heap.size w w9 := Below.trans hbb (hb9.mono (Below.size hbb))
    refine hK.out _ _ hS9 (fun hHeld => ?_)
    clear hK K
    try simp only [Act.put, zz]
    refine wpAnyH_take (i := 11) (v := .string ((⟨#[105, 102]⟩ : ByteArray) ++ Nb ++ Mb)) rfl (by kernel_rfl) (by kernel_rfl) (by kernel_rfl) (fun _ _ _ h => h) (Or.inl ⟨by rfl, fun w' h => by  go_simp⟩) hS9 ?_
    try simp only [Act.put, zz]
    refine wpAnyH_take (i := 12) (v := .string ((⟨#[105, 102]⟩ : ByteArray) ++ Nb ++ Mb)) rfl (by kernel_rfl) (by kernel_rfl) (by kernel_rfl) (fun _ _ _ h => h) (Or.inl ⟨by rfl, fun w' h => by  go_simp⟩) hS9 ?_
    try simp only [Act.put, zz]
    refine wpAnyH_done (by kernel_rfl) ?_ _
    go_wp2
    go_ret
    exact ⟨rfl, hbe⟩
   ·rw [if_pos (by rfl)]
    go_wp2_with fail
    have hSb := stay_alloc (p := .cells #[.int .i64 (x : Nat), .int .i64 (y : Nat)] 3) hSa
    have hJ := IntsAt.two wa 3 (x : Int) (y : Int)
    have hI2 := hI.below (below_al (Below.refl _ _) (.cells #[.int .i64 (x : Nat), .int .i64 (y : Nat)] 3))
    have hbb : Below w.heap.size w (wa.alloc (.cells #[.int .i64 (x : Nat), .int .i64 (y : Nat)] 3)) := below_al hba _
    generalize wa.alloc (.cells #[.int .i64 (x : Nat), .int .i64 (y : Nat)] 3) = wb at *
    generalize wa.heap.size = g2 at *
    refine hK.out _ _ hSb (fun hHeld => ?_)
    clear hK K
    try simp only [Act.put, zz]
    refine wpAnyH_ready (rs := [3]) (by kernel_rfl) (by simp) ?_
    refine AllReadyH.cons rfl (fun K hK => ?_) AllReadyH.nil
    rw [if_pos (by rfl)]
    go_wp2_with fail
    refine (HB.out _ _ hI2 (HI.out.below hbb)).mono ?_
    rintro e w1 ⟨rfl, hb1⟩
    have hS1 := (hb1.block _ (lt_of_block hSb)).trans hSb
    have hbw1 := hbb.trans (hb1.mono hbb.size)
    have hJ1 := hJ.below hb1
    refine hK.out _ _ hS1 (fun hHeld => ?_)
    clear hK K
    try simp only [Act.put, zz]
    refine wpAnyH_take (i := 4) (v := .string ((⟨#[105, 102]⟩ : ByteArray) ++ Nb)) rfl (by kernel_rfl) (by kernel_rfl) (by kernel_rfl) (fun _ _ _ h => h) (Or.inl ⟨by rfl, fun w' h => by  go_simp⟩) hS1 ?_
    try simp only [Act.put, zz]
    refine wpAnyH_ready (rs := [10]) (by kernel_rfl) (by simp) ?_
    refine AllReadyH.cons rfl (fun K hK => ?_) AllReadyH.nil
    rw [if_pos (by rfl)]
    go_wp2_with fail
    refine (HC.out _ _ hJ1 (HI.out.below hbw1)).mono ?_
    rintro e w9 ⟨rfl, hb9⟩
    have hS9 := (hb9.block _ (lt_of_block hS1)).trans hS1
    have hbe : Below w.heap.size w w9 := Below.trans hbw1 (hb9.mono (Below.size hbw1))
    refine hK.out _ _ hS9 (fun hHeld => ?_)
    clear hK K
    try simp only [Act.put, zz]
    refine wpAnyH_take (i := 11) (v := .string ((⟨#[105, 102]⟩ : ByteArray) ++ Nb ++ Mb)) rfl (by kernel_rfl) (by kernel_rfl) (by kernel_rfl) (fun _ _ _ h => h) (Or.inl ⟨by rfl, fun w' h => by  go_simp⟩) hS9 ?_
    try simp only [Act.put, zz]
    refine wpAnyH_take (i := 12) (v := .string ((⟨#[105, 102]⟩ : ByteArray) ++ Nb ++ Mb)) rfl (by kernel_rfl) (by kernel_rfl) (by kernel_rfl) (fun _ _ _ h => h) (Or.inl ⟨by rfl, fun w' h => by  go_simp⟩) hS9 ?_
    try simp only [Act.put, zz]
    refine wpAnyH_done (by kernel_rfl) ?_ _
    go_wp2
    go_ret
    exact ⟨rfl, hbe⟩
  ·rw [if_pos (by rfl)]
   go_wp2_with fail
   have hSa := stay_alloc (p := .cells #[.int .i64 (x : Nat), .int .i64 (y : Nat)] 3) hS
   have hJ := IntsAt.two wd 3 (x : Int) (y : Int)
   have hba : Below w.heap.size w (wd.alloc (.cells #[.int .i64 (x : Nat), .int .i64 (y : Nat)] 3)) := below_al hbd _
   generalize wd.alloc (.cells #[.int .i64 (x : Nat), .int .i64 (y : Nat)] 3) = wa at *
   generalize wd.heap.size = g1 at *
   refine hK.out _ _ hSa (fun hHeld => ?_)
   clear hK K
   try simp only [Act.put, zz]
   refine wpAnyH_ready (rs := [2]) (by kernel_rfl) (by simp) ?_
   refine AllReadyH.cons rfl (fun K hK => ?_) AllReadyH.nil
   rw [if_pos (by rfl)]
   go_wp2_with fail
   have hSb := stay_alloc (p := .cells #[.int .i64 (n : Nat)] 3) hSa
   have hI := IntsAt.one wa 3 (n : Int)
   have hJ2 := hJ.below (below_al (Below.refl _ _) (.cells #[.int .i64 (n : Nat)] 3))
   have hbb : Below w.heap.size w (wa.alloc (.cells #[.int .i64 (n : Nat)] 3)) := below_al hba _
   generalize wa.alloc (.cells #[.int .i64 (n : Nat)] 3) = wb at *
   generalize wa.heap.size = g2 at *
   refine hK.out _ _ hSb (fun hHeld => ?_)
   clear hK K
   try simp only [Act.put, zz]
   refine wpAnyH_ready (rs := [3]) (by kernel_rfl) (by simp) ?_
   refine AllReadyH.cons rfl (fun K hK => ?_) AllReadyH.nil
   rw [if_pos (by rfl)]
   go_wp2_with fail
   refine (HB.out _ _ hI (HI.out.below hbb)).mono ?_
   rintro e w1 ⟨rfl, hb1⟩
   have hS1 := (hb1.block _ (lt_of_block hSb)).trans hSb
   have hbw1 := hbb.trans (hb1.mono hbb.size)
   have hJ1 := hJ2.below hb1
   refine hK.out _ _ hS1 (fun hHeld => ?_)
   clear hK K
   try simp only [Act.put, zz]
   refine wpAnyH_take (i := 4) (v := .string ((⟨#[105, 102]⟩ : ByteArray) ++ Nb)) rfl (by kernel_rfl) (by kernel_rfl) (by kernel_rfl) (fun _ _ _ h => h) (Or.inl ⟨by rfl, fun w' h => by  go_simp⟩) hS1 ?_
   try simp only [Act.put, zz]
   refine wpAnyH_ready (rs := [10]) (by kernel_rfl) (by simp) ?_
   refine AllReadyH.cons rfl (fun K hK => ?_) AllReadyH.nil
   rw [if_pos (by rfl)]
   go_wp2_with fail
   refine (HC.out _ _ hJ1 (HI.out.below hbw1)).mono ?_
   rintro e w9 ⟨rfl, hb9⟩
   have hS9 := (hb9.block _ (lt_of_block hS1)).trans hS1
   have hbe : Below w.heap.size w w9 := Below.trans hbw1 (hb9.mono (Below.size hbw1))
   refine hK.out _ _ hS9 (fun hHeld => ?_)
   clear hK K
   try simp only [Act.put, zz]
   refine wpAnyH_take (i := 11) (v := .string ((⟨#[105, 102]⟩ : ByteArray) ++ Nb ++ Mb)) rfl (by kernel_rfl) (by kernel_rfl) (by kernel_rfl) (fun _ _ _ h => h) (Or.inl ⟨by rfl, fun w' h => by  go_simp⟩) hS9 ?_
   try simp only [Act.put, zz]
   refine wpAnyH_take (i := 12) (v := .string ((⟨#[105, 102]⟩ : ByteArray) ++ Nb ++ Mb)) rfl (by kernel_rfl) (by kernel_rfl) (by kernel_rfl) (fun _ _ _ h => h) (Or.inl ⟨by rfl, fun w' h => by  go_simp⟩) hS9 ?_
   try simp only [Act.put, zz]
   refine wpAnyH_done (by kernel_rfl) ?_ _
   go_wp2
   go_ret
   exact ⟨rfl, hbe⟩
abbrev BuildR (B b : Nat) (l : List UInt8) (w : World) : Prop := Lib.IsBuilderF 155 5 B b (Lib.byteCells l) w
theorem BuildR.below {B b : Nat} {l : List UInt8} {w w' : World} (h : BuildR B b l w) (hb : Below w.heap.size w w') : BuildR B b l w' := by
 have hg : w.grownBy w' none := ⟨hb.os, hb.tape, hb.output, hb.size, fun k hk _ => hb.block k hk⟩
 rcases h with ⟨h1, v, h2, h3, h4⟩ | ⟨h1, v, h2, h3, h4⟩
 ·exact Or.inl ⟨h1, v, (hb.block _ (lt_of_block h2)).trans h2, h3.kept hg (Classical.em _), h4⟩
 ·exact Or.inr ⟨h1, v, (hb.block _ (lt_of_block h2)).trans h2, h3.kept hg (Classical.em _), h4⟩
theorem write_any (B b : Nat) (l s : List UInt8) (w : World) (h : BuildR B b l w) (hlen : (l ++ s).length <= 100000000000) (hB : B <= w.heap.size) :
  Calls Tryz.prog 79 #[.pointer (some ⟨b, 0, none⟩), .string (bs s)] w fun e w' => (∃ n, e = .returned (.tuple #[.int .i64 n, .nilIface])) /\ BuildR B b (l ++ s) w' /\ Below B w w' /\ Lib.OthersKept 5 (some b) w w' := by
 refine (writeString_any B b (Lib.byteCells l) (bs s) w h (by rw [Lib.byteCells_length, bs_size]; rw [List.length_append] at hlen; omega) hB).mono ?_
 rintro e w' ⟨rfl, h1, h2, h3⟩
 refine ⟨⟨_, rfl⟩, Or.inr ?_, h2, h3⟩
 rw [Lib.byteCells_append]
 exact h1
theorem keptB {w w' : World} {b g : Nat} {C : Array Value} {T : TypeId} {z : Nat × Nat} (h : Lib.OthersKept 5 (some b) w w') (hg : w.heap[g]? = some (.cells C T z)) (hne : g ≠ b) (hT : T ≠ 5) : w'.heap[g]? = some (.cells C T z) :=
 h g _ hg (fun e => hne (by simpa using e)) (fun c fz e => by
  simp only [Obj.cells.injEq] at e
  exact hT e.2.1)
theorem text_any (args : Nat) (bks : List Code.Blk) (p : Option Addr) (c : Nat) (w : World) (hf : RepBlks w 0 (.slice p bks.length c) bks) (hg : Code.NiceB bks) (ha : args < 1000) (hi : TabI w) (ht : Tab w) :
  Calls Tryz.prog 39 #[.agg #[.int .i64 (args : Nat), .slice p bks.length c]] w fun e w' => e = .returned (.string (bs (Code.wrF args bks))) /\ Below w.heap.size w w' := by
 have HLEN := hide (hg.text ha)
 have HG := hide hg
 have HI := hide hi
 have HT := hide ht
 have HA := hide (one_in ha)
 have hn := hg.few
 obtain ⟨p', c', hpe, hblk⟩ := hf.open
 simp only [Value.slice.injEq] at hpe
 obtain ⟨rfl, _, rfl⟩ := hpe
 have HBLK := hide hblk
 clear hblk hf hg hi ht ha
 go_enter Tryz.func39, Tryz.ntmps39
 go_wp2_with fail
 refine (numbered_one [102, 117, 110, 99, 32] args HA.out (by decide) _ _ (by rw [alloc_size, alloc_size]) (HI.out.below (below_al (below_al (Below.refl _ _) _) _))).mono ?_
 rintro e w1 ⟨rfl, hb2⟩
 have hb1 : Below w.heap.size w w1 := unalB (unalB hb2)
 have hbox : w1.heap[w.heap.size]? = some (.cells #[.int .i64 (args : Nat), .slice p bks.length c] 78) := by
  have h := heap_alloc_new w (.cells #[.int .i64 (args : Nat), .slice p bks.length c] 78)
  have h2 := stay_alloc (p := .cells #[.pointer none, .slice none 0 0] 155) h
  exact (hb2.block _ (lt_of_block h2)).trans h2
 have hbr : BuildR w.heap.size (w.heap.size + 1) [] w1 := by
  have h := heap_alloc_new (w.alloc (.cells #[.int .i64 (args : Nat), .slice p bks.length c] 78)) (.cells #[.pointer none, .slice none 0 0] 155)
  rw [alloc_size] at h
  refine Or.inl ⟨by omega, .slice none 0 0, (hb2.block _ (lt_of_block h)).trans h, World.ownsRowF_nil _ _ _ _, by simp [Value.ownBlock]⟩
 have HBR := hide hbr
 have HBOX := hide hbox
 have HW : Hid (Code.preB args bks 0 = _) := hide (Code.preB_zero args bks)
 have HL0 := hide (Code.preB_le args bks 0)
 rw [HW.out] at HL0
 clear hbr hbox hb2
 have hNs := numb_size [102, 117, 110, 99, 32] args HA.out (by decide)
 generalize Code.numb [102, 117, 110, 99, 32] [(args : Int)] = N at *
 have HE : Hid (bs N ++ ({ data := #[10] } : ByteArray) = bs (N ++ [10])) := hide (bs_append N [10])
 generalize bs N = Nb at *
 have hNs' : Nb.size + 1 <= 9223372036854775807 := by omega
 go_wp2_with fail
 rw [HE.out]
 refine (write_any w.heap.size (w.heap.size + 1) [] (N ++ [10]) w1 HBR.out (Nat.le_trans HL0.out HLEN.out) hb1.size).mono ?_
 rintro e w2 ⟨⟨n2, rfl⟩, hbr2, hbw2, hk2⟩
 rw [List.nil_append, <- HW.out] at hbr2
 have hbox2 := keptB hk2 HBOX.out (by omega) (by decide)
 have q1 := blk_cell hbox2 1 _ rfl
 have hb2 : Below w.heap.size w w2 := hb1.trans hbw2
 clear hbw2 hk2 hbox2 HBR HBOX HW HL0
 go_wp2_with fail
 go_loopw [17] (fun i wr => ∃ (j : Nat), j <= bks.length /\ i = .int .i64 j /\ BuildR w.heap.size (w.heap.size + 1) (Code.preB args bks j) wr /\ Below w.heap.size w wr) (fun i _ => bks.length - (intOf i).toNat)
 case atStart => exact ⟨0, by omega, rfl, hbr2, hb2⟩
 case round =>
  obtain ⟨j, hj, rfl, hbr, hbw⟩ := hrel
  clear hb2 hbr2 hb1 q1
  have hz := hbw.size
  by_cases hlt : j < bks.length
  ·obtain ⟨g, vs, rfl, hg, c0, c1, hvs⟩ := HBLK.out j hlt
   have hjb : bks[j]? = some bks[j] := List.getElem?_eq_getElem hlt
   have hvl := HG.out.short bks[j] (List.getElem_mem hlt)
   have HGV := hide (HG.out.vals bks[j] (List.getElem_mem hlt))
   have HGL := hide (HG.out.lasts bks[j] (List.getElem_mem hlt))
   have HPS := hide (fun (k : Nat) (hk : bks[j].values.length <= k) => Code.preB_succ args hjb hk)
   have HPV := hide (Code.preV_le args hjb)
   have HPB := hide (Code.preB_le args bks (j + 1))
   have HPZ := hide (Code.preV_zero args bks j bks[j].values)
   have HPN := hide (fun (k : Nat) (v : Code.Val) (h : bks[j].values[k]? = some v) => Code.preV_succ args bks j h)
   obtain ⟨pv, cv, rfl, hval⟩ := hvs.open
   have c0' := bcell' (hbw) g _ hg _ c0
   obtain ⟨T, zv, hzv⟩ := lastV_shape bks[j].last
   have HUL : Hid (∀ w1, Below w.heap.size w w1 -> Calls Tryz.prog 82 #[lastV bks[j].last] w1 fun e w' => e = .returned (.string (bs (Code.wrL bks[j].last))) /\ Below w1.heap.size w1 w') := hide fun w1 h1 => lastText_any bks[j].last w1 HGL.out (HI.out.below (h1))
   rw [hzv] at c1 HUL
   have c1' := bcell' (hbw) g _ hg _ c1
   have HJ := hide (one_in (x := j) (by omega))
   have hLTs : (bs (Code.wrL bks[j].last)).size <= 1000 := by rw [bs_size]; exact Code.wrL_len HGL.out
   generalize bks[j].values = vals at *
   generalize Code.wrL bks[j].last = LT at *
   have HV := hide hval
   clear hval c0 c1 hvs hzv hjb HGL
   rename World => wo
   go_wp2_with fail
   refine (numbered_one [98] j HJ.out (by decide) _ _ (by rw [alloc_size]) (HI.out.below (below_al hbw _))).mono ?_
   rintro e w3 ⟨rfl, hb3a⟩
   have hk3 : w3.heap[wo.heap.size]? = some (.cells #[.slice pv vals.length cv, .iface T zv] 165) := by
    have h := heap_alloc_new wo (.cells #[.slice pv vals.length cv, .iface T zv] 165)
    exact (hb3a.block _ (lt_of_block h)).trans h
   have hb3 : Below wo.heap.size wo w3 := unalB hb3a
   have hbr3 := hbr.below hb3
   have hlb := lt_of_block hk3
   generalize hgB : wo.heap.size = gB at *
   have hgne : gB ≠ w.heap.size + 1 := by
    rcases hbr with ⟨_, _, h, _⟩ | ⟨_, _, h, _⟩ <;> (have := lt_of_block h; omega)
   have hbw3 : Below w.heap.size w w3 := hbw.trans (hb3.mono (by omega))
   have HP1 := hide (HPV.out 0)
   rw [HPZ.out] at HP1
   clear hb3a c0' c1' hbr hbw
   have hNJs := numb_size [98] j HJ.out (by decide)
   generalize Code.numb [98] [(j : Int)] = NJ at *
   have HEJ : Hid (bs NJ ++ ({ data := #[58, 10] } : ByteArray) = bs (NJ ++ [58, 10])) := hide (bs_append NJ [58, 10])
   generalize bs NJ = NJb at *
   have hNJs' : NJb.size + 2 <= 9223372036854775807 := by omega
   go_wp2_with fail
   rw [HEJ.out]
   refine (write_any w.heap.size (w.heap.size + 1) _ (NJ ++ [58, 10]) w3 hbr3 (Nat.le_trans HP1.out HLEN.out) (by have := hbw3.size; omega)).mono ?_
   rintro e w4 ⟨⟨n4, rfl⟩, hbr4, hbw4, hk4⟩
   rw [<- HPZ.out] at hbr4
   have hkb4 := keptB hk4 hk3 hgne (by decide)
   have q0 := blk_cell hkb4 0 _ rfl
   have hb4 : Below w.heap.size w w4 := hbw3.trans hbw4
   clear hk4 hbw4 hbw3 hbr3 hk3 hb3 HP1 HPZ
   go_wp2_with fail
   go_loopw [30] (fun i ws => ∃ (k : Nat), k <= vals.length /\ i = .int .i64 k /\ BuildR w.heap.size (w.heap.size + 1) (Code.preV args bks j vals k) ws /\ ws.heap[gB]? = some (.cells #[.slice pv vals.length cv, .iface T zv] 165) /\ Below w.heap.size w ws) (fun i _ => vals.length - (intOf i).toNat)
   case atStart => exact ⟨0, by omega, rfl, hbr4, hkb4, hb4⟩
   case round =>
    obtain ⟨k, hk, rfl, hbr, hkb, hbs⟩ := hrel
    clear hb4 hkb4 hbr4 q0
    have hzs := hbs.size
    have hlB := lt_of_block hkb
    by_cases hkt : k < vals.length
    ·obtain ⟨g2, th, rfl, hg2, d0, d1, hth⟩ := HV.out k hkt
     have d0' := bcell' (hbs) g2 _ hg2 _ d0
     have d1' := bcell' (hbs) g2 _ hg2 _ d1
     have HGK := hide (HGV.out vals[k] (List.getElem_mem hkt))
     have HTX : Hid (∀ w1, Below w.heap.size w w1 -> Calls Tryz.prog 81 #[th] w1 fun e w' => e = .returned (.string (bs (Code.wrT vals[k].thing))) /\ Below w1.heap.size w1 w') := hide fun w1 h1 => thingText_any vals[k].thing th w1 (hth.mono (fun _ _ _ h' => own_below h' (h1))) HGK.out.2 (HI.out.below (h1)) (HT.out.below (h1))
     have HSV := hide (HPN.out k vals[k] (List.getElem?_eq_getElem hkt))
     have HLV := hide (HPV.out (k + 1))
     rw [HSV.out] at HLV
     have HX := hide (one_in (x := vals[k].num) (by have := HGK.out.1; omega))
     obtain ⟨T', tv, rfl⟩ := hth.shape
     unfold Code.wrV at HSV HLV
     have hTTs : (bs (Code.wrT vals[k].thing)).size <= 2400000 := by rw [bs_size]; exact Code.wrT_len HGK.out.2
     clear d0 d1 hth HGK
     generalize vals[k].num = x at *
     generalize Code.wrT vals[k].thing = TT at *
     have HNX : Hid (∀ w1 sl, IntsAt w1 sl [(x : Int)] -> TabI w1 -> Calls Tryz.prog 80 #[.string (bs [118]), sl] w1 fun e w' => e = .returned (.string (bs (Code.numb [118] [(x : Int)]))) /\ Below w1.heap.size w1 w') := hide fun w1 sl hs ht => numbered_any [118] [(x : Int)] sl w1 hs (by simpa using HX.out) (by simp) (by decide) ht
     have hXs := numb_size [118] x HX.out (by decide)
     generalize Code.numb [118] [(x : Int)] = X at *
     have HEV : Hid (bs X ++ ({ data := #[32, 61, 32] } : ByteArray) ++ bs TT ++ ({ data := #[10] } : ByteArray) = bs (X ++ [32, 61, 32] ++ TT ++ [10])) := by
      have e : bs X ++ bs [32, 61, 32] ++ bs TT ++ bs [10] = bs (X ++ [32, 61, 32] ++ TT ++ [10]) := by rw [bs_append, bs_append, bs_append]
      exact hide e
     generalize bs X = Xb at *
     generalize bs TT = TTb at *
     have z1 : Xb.size + 3 <= 9223372036854775807 := by omega
     have z2 : Xb.size + 3 + TTb.size <= 9223372036854775807 := by omega
     have z3 : Xb.size + 3 + TTb.size + 1 <= 9223372036854775807 := by omega
     clear hXs hTTs HX
     go_wp2_with fail
     generalize hw9 : wr.alloc _ = w9
     have hb9 : Below wr.heap.size wr w9 := by rw [<- hw9]; exact below_al (Below.refl _ _) _
     have hx9 : w9.heap[wr.heap.size]? = some (.cells #[.int .i64 (x : Nat), .iface T' tv] 169) := by rw [<- hw9]; exact heap_alloc_new wr _
     have hgv : wr.heap.size ≠ w.heap.size + 1 := by
      rcases hbr with ⟨_, _, h, _⟩ | ⟨_, _, h, _⟩ <;> (have := lt_of_block h; omega)
     have hgvB : wr.heap.size ≠ gB := by omega
     have hbr9 := hbr.below hb9
     have hkb9 := (hb9.block _ hlB).trans hkb
     have hbs9 : Below w.heap.size w w9 := hbs.trans (hb9.mono hzs)
     clear hw9 d0' d1' hb9 hbr hkb hbs
     generalize wr.heap.size = gv at *
     have hS : w9.drew.heap[gv]? = some (.cells #[.int .i64 (x : Nat), .iface T' tv] 169) := hx9
     refine wp_region_held_drew (S := fun w' => w'.heap[gv]? = some (.cells #[.int .i64 (x : Nat), .iface T' tv] 169)) (by kernel_rfl) hx9 (fun hHeld => ?_)
     have hbrd : BuildR w.heap.size (w.heap.size + 1) (Code.preV args bks j vals k) w9.drew := hbr9
     have hkbd : w9.drew.heap[gB]? = _ := hkb9
     have hbsd : Below w.heap.size w w9.drew := hbs9.drew
     generalize w9.drew = wd at *
     clear hx9 hHeld hbr9 hkb9 hbs9
     refine wpAnyH_take (i := 0) (v := .pointer (some ⟨gv, 0, none⟩)) rfl (by kernel_rfl) (by kernel_rfl) (by kernel_rfl) (fun _ _ _ h => h) (Or.inl ⟨by rfl, fun w' h => by  go_simp⟩) hS ?_
     try simp only [Act.put, zz]
     refine wpAnyH_take (i := 1) (v := .int .i64 (x : Nat)) rfl (by kernel_rfl) (by kernel_rfl) (by kernel_rfl) (fun _ _ _ h => h) (Or.inl ⟨by rfl, fun w' h => by have r0 := blk_cell h 0 _ rfl; go_simp⟩) hS ?_
     try simp only [Act.put, zz]
     refine wpAnyH_take (i := 5) (v := .pointer (some ⟨gv, 1, none⟩)) rfl (by kernel_rfl) (by kernel_rfl) (by kernel_rfl) (fun _ _ _ h => h) (Or.inl ⟨by rfl, fun w' h => by  go_simp⟩) hS ?_
     try simp only [Act.put, zz]
     refine wpAnyH_take (i := 6) (v := .iface T' tv) rfl (by kernel_rfl) (by kernel_rfl) (by kernel_rfl) (fun _ _ _ h => h) (Or.inl ⟨by rfl, fun w' h => by have r0 := blk_cell h 1 _ rfl; go_simp⟩) hS ?_
     try simp only [Act.put, zz]
     refine wpAnyH_ready (rs := [2]) (by kernel_rfl) (by simp) ?_
     refine AllReadyH.cons rfl (fun K hK => ?_) AllReadyH.nil
     rw [if_pos (by rfl)]
     go_wp2_with fail
     have hSa := stay_alloc (p := .cells #[.int .i64 (x : Nat)] 3) hS
     have hIa := IntsAt.one wd 3 (x : Int)
     have hbra := hbrd.below (below_al (Below.refl _ _) (.cells #[.int .i64 (x : Nat)] 3))
     have hkba := stay_alloc (p := .cells #[.int .i64 (x : Nat)] 3) hkbd
     have hba : Below w.heap.size w (wd.alloc (.cells #[.int .i64 (x : Nat)] 3)) := below_al hbsd _
     generalize wd.alloc (.cells #[.int .i64 (x : Nat)] 3) = wa at *
     generalize wd.heap.size = g1 at *
     clear hS hbrd hkbd hbsd
     refine hK.out _ _ hSa (fun hHeld => ?_)
     clear hK K
     try simp only [Act.put, zz]
     refine wpAnyH_ready (rs := [3]) (by kernel_rfl) (by simp) ?_
     refine AllReadyH.cons rfl (fun K hK => ?_) AllReadyH.nil
     rw [if_pos (by rfl)]
     go_wp2_with fail
     refine (HNX.out _ _ hIa (HI.out.below hba)).mono ?_
     rintro e w5 ⟨rfl, hb5⟩
     have hS5 := (hb5.block _ (lt_of_block hSa)).trans hSa
     have hbr5 := hbra.below hb5
     have hkb5 := (hb5.block _ (lt_of_block hkba)).trans hkba
     have hbw5 := hba.trans (hb5.mono hba.size)
     clear hb5 hSa hbra hkba hba hIa
     refine hK.out _ _ hS5 (fun hHeld => ?_)
     clear hK K
     try simp only [Act.put, zz]
     refine wpAnyH_take (i := 4) (v := .string (Xb ++ ({ data := #[32, 61, 32] } : ByteArray))) rfl (by kernel_rfl) (by kernel_rfl) (by kernel_rfl) (fun _ _ _ h => h) (Or.inl ⟨by rfl, fun w' h => by  go_simp⟩) hS5 ?_
     try simp only [Act.put, zz]
     refine wpAnyH_ready (rs := [7]) (by kernel_rfl) (by simp) ?_
     refine AllReadyH.cons rfl (fun K hK => ?_) AllReadyH.nil
     rw [if_pos (by rfl)]
     go_wp2_with fail
     refine (HTX.out _ hbw5).mono ?_
     rintro e w6 ⟨rfl, hb6⟩
     have hS6 := (hb6.block _ (lt_of_block hS5)).trans hS5
     have hbr6 := hbr5.below hb6
     have hkb6 := (hb6.block _ (lt_of_block hkb5)).trans hkb5
     have hbw6 := hbw5.trans (hb6.mono hbw5.size)
     clear hb6 hS5 hbr5 hkb5 hbw5
     refine hK.out _ _ hS6 (fun hHeld => ?_)
     clear hK K
     try simp only [Act.put, zz]
     refine wpAnyH_take (i := 8) (v := .string (Xb ++ ({ data := #[32, 61, 32] } : ByteArray) ++ TTb)) rfl (by kernel_rfl) (by kernel_rfl) (by kernel_rfl) (fun _ _ _ h => h) (Or.inl ⟨by rfl, fun w' h => by  go_simp⟩) hS6 ?_
     try simp only [Act.put, zz]
     refine wpAnyH_take (i := 9) (v := .string (Xb ++ ({ data := #[32, 61, 32] } : ByteArray) ++ TTb ++ ({ data := #[10] } : ByteArray))) rfl (by kernel_rfl) (by kernel_rfl) (by kernel_rfl) (fun _ _ _ h => h) (Or.inl ⟨by rfl, fun w' h => by  go_simp⟩) hS6 ?_
     try simp only [Act.put, zz]
     refine wpAnyH_ready (rs := [10]) (by kernel_rfl) (by simp) ?_
     refine AllReadyH.cons rfl (fun K hK => ?_) AllReadyH.nil
     rw [if_pos (by rfl)]
     go_wp2_with fail
     rw [HEV.out]
     refine (write_any w.heap.size (w.heap.size + 1) _ (X ++ [32, 61, 32] ++ TT ++ [10]) w6 hbr6 (Nat.le_trans HLV.out HLEN.out) hbw6.size).mono ?_
     rintro e w7 ⟨⟨n7, rfl⟩, hbr7, hbw7, hk7⟩
     rw [<- HSV.out] at hbr7
     have hS7 := keptB hk7 hS6 hgv (by decide)
     have hkb7 := keptB hk7 hkb6 hgne (by decide)
     have hb7 : Below w.heap.size w w7 := hbw6.trans hbw7
     refine hK.out _ _ hS7 (fun hHeld => ?_)
     clear hK K
     try simp only [Act.put, zz]
     refine wpAnyH_done (by kernel_rfl) ?_ _
     go_wp2
     exact ⟨⟨k + 1, by omega, by go_num, hbr7, hkb7, hb7⟩, by simp [intOf]; omega⟩
    ·have HE2 := hide (HPS.out k (by omega))
     rw [HE2.out] at HPB
     have q1 := blk_cell hkb 1 _ rfl
     clear HV
     go_wp2_with fail
     refine (HUL.out wr hbs).mono ?_
     rintro e w5 ⟨rfl, hb5⟩
     have hbr5 := hbr.below hb5
     have hbw5 := hbs.trans (hb5.mono hzs)
     have HEL : Hid (bs LT ++ ({ data := #[10] } : ByteArray) = bs (LT ++ [10])) := hide (bs_append LT [10])
     generalize bs LT = LTb at *
     have z1 : LTb.size + 1 <= 9223372036854775807 := by omega
     go_wp2_with fail
     rw [HEL.out]
     refine (write_any w.heap.size (w.heap.size + 1) _ (LT ++ [10]) w5 hbr5 (Nat.le_trans HPB.out HLEN.out) hbw5.size).mono ?_
     rintro e w7 ⟨⟨n7, rfl⟩, hbr7, hbw7, hk7⟩
     rw [<- HE2.out] at hbr7
     have hb7 : Below w.heap.size w w7 := hbw5.trans hbw7
     go_wp2
     exact ⟨⟨j + 1, by omega, by go_num, hbr7, hb7⟩, by simp [intOf]; omega⟩
  ·have hpre := Code.preB_all args bks j (by omega)
   rw [hpre] at hbr
   have HS := hide (builderString_any w.heap.size (w.heap.size + 1) (Code.wrF args bks) wr hbr hbw.size)
   clear hpre
   go_wp2_with fail
   refine HS.out.mono ?_
   rintro e w9 ⟨rfl, hbr9, hb9, hk9⟩
   go_wp2
   go_ret
   exact ⟨rfl, hbw.trans hb9⟩
open Go.Proofs.YtedkjanogjglkaaGreatDoor.Code (RTree Nm RSt Prs CRule)
namespace Code
structure Fine (bks : List Blk) : Prop where
 good : NiceB bks
 once : OnceN bks
theorem flat_sub : ∀ {bks : List Blk} {b : Blk}, b ∈ bks -> b.values.Sublist (bks.flatMap Blk.values)
 | a :: l, b, h => by
  rw [List.flatMap_cons]
  rcases List.mem_cons.1 h with h | h
  ·subst h; exact List.sublist_append_left _ _
  ·exact (flat_sub h).trans (List.sublist_append_right _ _)
theorem firstOf_lt {of : List Nat} {i n : Nat} (hn : n < 60) (ho : ∀ x ∈ of, x < 60) : ∀ x ∈ firstOf of i n, x < 60 := by
 unfold firstOf
 split
 ·intro x hx
  rcases List.mem_append.1 hx with hx | hx
  ·exact ho x hx
  ·simp only [List.mem_cons, List.not_mem_nil, or_false] at hx
   subst hx; exact hn
 ·exact ho
theorem Fine.short {bks : List Blk} (h : Fine bks) : ∀ b ∈ bks, b.values.length <= 60 := by
 intro b hb
 have h1 : (b.values.map Val.num).Nodup := List.Nodup.sublist ((flat_sub hb).map _) h.once
 have h2 := nodup_short (n := 60) h1 (fun x hx => by
  obtain ⟨v, hv, rfl⟩ := List.mem_map.1 hx
  exact (h.good.vals b hb v hv).1)
 simpa using h2
mutual
theorem cfits_lt {th : Nat -> Option Thing} (hok : ThOk th) (ns : List Nm) : ∀ (t : RTree) (n : Nat) (of of' : List Nat), n < 60 -> (∀ x ∈ of, x < 60) -> cfits th ns t n of = some of' -> ∀ x ∈ of', x < 60
 | .num c, n, of, of', _, ho, h => by
  simp only [cfits] at h
  split at h
  ·simp only [Option.some.injEq] at h; subst h; exact ho
  ·cases h
 | .name x, n, of, of', hn, ho, h => by
  simp only [cfits] at h
  split at h
  ·simp only [Option.some.injEq] at h; subst h; exact firstOf_lt hn ho
  ·cases h
 | .hash x, n, of, of', hn, ho, h => by
  simp only [cfits] at h
  split at h
  ·cases h
  ·split at h
   ·simp only [Option.some.injEq] at h; subst h; exact firstOf_lt hn ho
   ·cases h
 | .op k kids, n, of, of', hn, ho, h => by
  simp only [cfits] at h
  split at h
  ·rename_i j args hth
   split at h
   ·exact cfitsAll_lt hok ns kids args of of' (hok n _ hth).2.2 ho h
   ·cases h
  ·cases h
 | .fold _ _, n, of, of', _, _, h => by simp [cfits] at h
theorem cfitsAll_lt {th : Nat -> Option Thing} (hok : ThOk th) (ns : List Nm) : ∀ (l : List RTree) (args of of' : List Nat), (∀ x ∈ args, x < 60) -> (∀ x ∈ of, x < 60) -> cfitsAll th ns l args of = some of' -> ∀ x ∈ of', x < 60
 | [], args, of, of', _, ho, h => by
  simp only [cfitsAll, Option.some.injEq] at h; subst h; exact ho
 | _ :: _, [], of, of', _, _, h => by simp [cfitsAll] at h
 | t :: l, n :: args, of, of', ha, ho, h => by
  simp only [cfitsAll, Option.bind_eq_some_iff] at h
  obtain ⟨o1, h1, h2⟩ := h
  exact cfitsAll_lt hok ns l args o1 of' (fun x hx => ha x (by simp [hx])) (cfits_lt hok ns t n of o1 (ha n (by simp)) ho h1) h2
end
theorem lookK_mem {ns : List Nm} {of : List Nat} {w : List UInt8} {v : Nat} (h : lookK (knOf ns of) w = some v) : v ∈ of := by
 unfold lookK at h
 simp only [Option.map_eq_some_iff] at h
 obtain ⟨q, hq, rfl⟩ := h
 have := List.mem_of_find?_eq_some hq
 exact (List.of_mem_zip this).2
theorem knownV_lt {ns : List Nm} {of : List Nat} (h : ∀ x ∈ of, x < 60) (w : List UInt8) : knownV (knOf ns of) w < 60 := by
 unfold knownV
 cases hl : lookK (knOf ns of) w with
 | none => simp
 | some v => exact h v (lookK_mem hl)
theorem things_none {bks : List Blk} {n : Nat} (h : things bks n = none) : n ∉ (bks.flatMap Blk.values).map Val.num := by
 intro hm
 obtain ⟨v, hv, rfl⟩ := List.mem_map.1 hm
 unfold things at h
 rw [Option.map_eq_none_iff, List.find?_eq_none] at h
 exact h v hv (by simp)
theorem things_thOk {bks : List Blk} (h : Fine bks) : ThOk (things bks) := by
 rw [<- thOf_things h.once]
 exact h.good.thOk
def stepI (bks : List Blk) (p : Pair) (num : Nat) (kn : Known) : List Blk := match p.rule.result with
 | .name w => renB num (knownV kn w) (putB p.block p.index [] bks)
 | t => putB p.block p.index ((mkThing (things bks) kn t ⟨[], 0⟩).2.made ++ [⟨num, (mkThing (things bks) kn t ⟨[], 0⟩).1⟩]) bks
def noRoom (bks : List Blk) (p : Pair) (kn : Known) : Prop := (∀ w, p.rule.result ≠ .name w) /\ 60 < (mkThing (things bks) kn p.rule.result ⟨[], 0⟩).2.next
theorem stepB1_room {bks : List Blk} {p : Pair} {num : Nat} {kn : Known} (h : noRoom bks p kn) : stepB1 bks p num kn = none := by
 unfold stepB1
 split
 ·rename_i w hw
  exact absurd hw (h.1 w)
 ·rw [if_pos h.2]
theorem stepB1_is {bks : List Blk} {p : Pair} {num : Nat} {kn : Known} (h : ¬ noRoom bks p kn) : stepB1 bks p num kn = some (sweep (stepI bks p num kn)) := by
 unfold stepB1 stepI
 split
 ·rename_i w hw
  rw [hw]
 ·rename_i t hw
  rw [if_neg (fun hlt => h ⟨hw, hlt⟩)]
  cases hr : p.rule.result with
  | name w => exact absurd hr (hw w)
  | _ => rfl
theorem stepI_fine {bks : List Blk} (h : Fine bks) {p : Pair} {b : Blk} {v : Val} {kn : Known} (hR : p.rule.result.fine) (hb : bks[p.block]? = some b) (hv : b.values[p.index]? = some v) (hk : ∀ w, knownV kn w < 60) (hn : ¬ noRoom bks p kn) : Fine (stepI bks p v.num kn) := by
 have hbm := List.mem_of_getElem? hb
 have hvm := List.mem_of_getElem? hv
 have hsh : ∀ b ∈ bks, b.values.length <= 900 := fun b hb => Nat.le_trans (h.short b hb) (by omega)
 obtain ⟨A, B, hall, hput⟩ := putB_parts hb hv
 have honce := h.once
 unfold OnceN at honce
 rw [hall, List.map_append, List.map_cons] at honce
 unfold stepI
 split
 ·rename_i w hw
  refine ⟨renB_good (hk w) (putB_good h.good (by simp) (by simp) hsh), ?_⟩
  unfold OnceN
  rw [renB_nums, hput, List.map_append, List.map_append]
  exact nodup_put honce (by simp) (by simp)
 ·rename_i hw
  have hlt : (mkThing (things bks) kn p.rule.result ⟨[], 0⟩).2.next <= 60 := Nat.not_lt.1 fun hl => hn ⟨hw, hl⟩
  obtain ⟨i1, _, i3⟩ := mkThing_inv (things_thOk h) kn p.rule.result hw ⟨[], 0⟩ hR (fun q _ => hk q.1) (MkInv.nil _)
  generalize mkThing (things bks) kn p.rule.result ⟨[], 0⟩ = M at *
  have hlen : M.2.made.length <= 60 := by
   have := nodup_short (n := 60) i1.once (fun x hx => by
    obtain ⟨u, hu, rfl⟩ := List.mem_map.1 hx
    have := i1.low u hu
    omega)
   simpa using this
  refine ⟨putB_good h.good (fun u hu => ?_) (by simp; omega) hsh, ?_⟩
  ·rcases List.mem_append.1 hu with hu | hu
   ·have := i1.low u hu
    exact ⟨by omega, (i1.made u hu).good hlt⟩
   ·simp only [List.mem_cons, List.not_mem_nil, or_false] at hu
    subst hu
    exact ⟨(h.good.vals b hbm v hvm).1, i3.good hlt⟩
  ·unfold OnceN
   rw [hput, List.map_append, List.map_append]
   have hnew : ∀ n ∈ M.2.made.map Val.num, n ∉ A.map Val.num ++ v.num :: B.map Val.num := by
    intro n hm
    obtain ⟨u, hu, rfl⟩ := List.mem_map.1 hm
    have h60 : u.num < 60 := by have := i1.low u hu; omega
    have := things_none (i1.new u hu h60)
    rw [hall, List.map_append, List.map_cons] at this
    exact this
   refine nodup_put honce ?_ ?_
   ·simp only [List.map_append, List.map_cons, List.map_nil]
    rw [List.nodup_append]
    refine ⟨i1.once, by simp, fun a ha c hc e => ?_⟩
    simp only [List.mem_cons, List.not_mem_nil, or_false] at hc
    subst e hc
    exact hnew _ ha (by simp)
   ·intro n hm
    simp only [List.map_append, List.map_cons, List.map_nil, List.mem_append, List.mem_cons, List.not_mem_nil, or_false] at hm
    rcases hm with hm | hm
    ·exact Or.inr (hnew n hm)
    ·exact Or.inl hm
theorem Fine.sweep {bks : List Blk} (h : Fine bks) : Fine (Code.sweep bks) := ⟨h.good.sub (SubB.sweep bks), h.once.sub (SubB.sweep bks)⟩
def stepR (args : Nat) (bks : List Blk) (p : Pair) : Option (List Blk) :=
 (bks[p.block]?.bind fun b => b.values[p.index]?).bind fun v => (fits (things bks) p.rule.node v.num []).bind fun kn => (stepB1 bks p v.num kn).filter fun n => decide ((wrF args n).length <= 1500)
inductive RewS (args : Nat) (rules : List CRule) (picks : List Int) : Nat -> List Blk -> List Blk -> Nat -> Int -> Prop
 | done {k : Nat} {bks : List Blk} : pairs rules bks = [] -> RewS args rules picks k bks bks k 0
 | room {k : Nat} {bks : List Blk} {p : Pair} : (pairs rules bks)[pickN picks k (pairs rules bks).length]? = some p -> stepR args bks p = none -> RewS args rules picks k bks bks k 9
 | next {k : Nat} {bks n out : List Blk} {p : Pair} {m : Nat} {e : Int} : (pairs rules bks)[pickN picks k (pairs rules bks).length]? = some p -> stepR args bks p = some n -> RewS args rules picks (k + 1) n out m e -> RewS args rules picks k bks out m e
theorem stepR_fine {args : Nat} {bks n : List Blk} {p : Pair} (h : Fine bks) (hR : RuleOk p.rule) (hs : stepR args bks p = some n) : Fine n := by
 unfold stepR at hs
 simp only [Option.bind_eq_some_iff, Option.filter_eq_some_iff] at hs
 obtain ⟨v, ⟨b, hb, hv⟩, kn, hkn, hst, _⟩ := hs
 have hv60 : v.num < 60 := (h.good.vals b (List.mem_of_getElem? hb) v (List.mem_of_getElem? hv)).1
 have hk : ∀ w, knownV kn w < 60 := by
  intro w
  rw [hR.fits, Option.map_eq_some_iff] at hkn
  obtain ⟨of, hof, rfl⟩ := hkn
  exact knownV_lt (cfits_lt (things_thOk h) _ _ _ _ _ hv60 (by simp) hof) w
 by_cases hn : noRoom bks p kn
 ·rw [stepB1_room hn] at hst; cases hst
 ·rw [stepB1_is hn, Option.some.injEq] at hst
  subst hst
  exact (stepI_fine h hR.fineR hb hv hk hn).sweep
end Code
end Go.Proofs.YtedkjanogjglkaaGreatDoor
