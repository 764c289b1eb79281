/-
  What is made is run as it says; walk: chiselkeep.Reckoned.
-/
import Derived.Test.YtdffpkmabehfbaaDoorKMade
import Derived.Test.YtdffpkmabehfbaaDoorCWorks
namespace Go.Proofs.YtdffpkmabehfbaaDoor
open Go.RowKit
open Go.Proofs.YtdffpkmabehfbaaDoor.Ref (dec ch digits)

theorem MadeOk.size {x y : Int} {l : List Code.Val} {out : List Int} {m : Nat} (h : MadeOk x y l out m) (hm : m ≤ 40) : (madeText l).length ≤ 1500 := by
  have h1 := h.text
  have h2 := Code.dec_len (l.length - 1) 2 (by omega) (by have := h.len; omega)
  have e : (madeText l).length = (hdr ++ Code.linesOf l).length + 5 + (dec (l.length - 1)).length + 1 := by
    simp [madeText, Code.oneBlock, hdr]
    omega
  omega

theorem MadeOk.vals {x y : Int} {l : List Code.Val} {out : List Int} {m : Nat} (h : MadeOk x y l out m) (hm : m ≤ 40) : ∀ v ∈ l, v.num < 60 ∧ Code.GoodT 2 v.thing := fun v hv => by
  have h1 := (h.seq.mem v hv).1
  have h2 := h.seq.mem v hv
  have h3 := h.len
  exact ⟨by omega, h.good v hv⟩

theorem runK1 {x y : Int} {l : List Code.Val} {out : List Int} {m : Nat} (h : MadeOk x y l out m) (hm : m ≤ 40) (hx : -2147483648 ≤ x ∧ x < 2147483648) (hy : -2147483648 ≤ y ∧ y < 2147483648) (av : Value) (w : World) (ht : Tab w) (hav : w.ownsRow 0 3 1 av 2 (ints [x, y])) :
    Calls Tryd.prog 9 #[.string (bs (madeText l)), av, .int .i64 ((m + 3 : Nat) : Int)] w fun e w' => e = .returned (.tuple #[.int .i64 (out.getD (l.length - 1) 0), .int .i64 ((m + 3 : Nat) : Int), .int .i64 0]) ∧ Below w.heap.size w w' :=
  irRun_at (madeText l) ⟨2, [⟨l, .ret (l.length - 1)⟩]⟩ av [x, y] (m + 3) w _ (m + 3) 0 (h.size hm) ht (Code.fn_text l _ (h.vals hm) (by have := h.len; omega)) (Code.one_right h.seq h.good (by have := h.len; omega) (by have := h.len; omega)) hav rfl
    (fun z hz => by
      simp at hz
      rcases hz with rfl | rfl
      · exact hx
      · exact hy) (show 2 ≤ 100000 by omega) (by omega) (Code.one_runs (args := [x, y]) h.seq h.good (by have := h.len; omega) (by have := h.len; omega))
    (Code.one_ends h.seq h.good (by have := h.len; omega) h.yields (by have := h.len; omega) (by have := h.len; omega))

theorem runK2 {x y : Int} {l : List Code.Val} {out : List Int} {m : Nat} (h : MadeOk x y l out m) (hm : m ≤ 40) (hx : -2147483648 ≤ x ∧ x < 2147483648) (hy : -2147483648 ≤ y ∧ y < 2147483648) (av : Value) (w : World) (ht : Tab w) (hav : w.ownsRow 0 3 1 av 2 (ints [x, y])) :
    Calls Tryd.prog 9 #[.string (bs (madeText l)), av, .int .i64 ((m + 2 : Nat) : Int)] w fun e w' => e = .returned (.tuple #[.int .i64 0, .int .i64 ((m + 2 : Nat) : Int), .int .i64 5]) ∧ Below w.heap.size w w' :=
  irRun_at (madeText l) ⟨2, [⟨l, .ret (l.length - 1)⟩]⟩ av [x, y] (m + 2) w _ (m + 2) 5 (h.size hm) ht (Code.fn_text l _ (h.vals hm) (by have := h.len; omega)) (Code.one_right h.seq h.good (by have := h.len; omega) (by have := h.len; omega)) hav rfl
    (fun z hz => by
      simp at hz
      rcases hz with rfl | rfl
      · exact hx
      · exact hy) (show 2 ≤ 100000 by omega) (by omega) (Code.one_runs (args := [x, y]) h.seq h.good (by have := h.len; omega) (by have := h.len; omega))
    (Code.one_fuel h.seq h.good (by have := h.len; omega) h.yields (by have := h.len; omega))

theorem ActsAt.below {w w' : World} {p : Option Addr} {acts : List (Int × Int × Int)} (h : ActsAt w p acts) (hb : Below w.heap.size w w') : ActsAt w' p acts := fun i hi => by
  obtain ⟨g, o, e, hg, c0, c1, c2⟩ := h i hi
  exact ⟨g, o, e, Nat.lt_of_lt_of_le hg hb.size, ((bcell hb).1 g _ hg).trans c0, ((bcell hb).1 g _ hg).trans c1, ((bcell hb).1 g _ hg).trans c2⟩

set_option maxRecDepth 100000 in
set_option maxHeartbeats 2000000 in
theorem reckoned_any (acts : List (Int × Int × Int)) (p : Option Addr) (cap : Nat) (a b : Int) (w : World) (ht : Tab w) (ha : ActsAt w p acts) (hin : ∀ a ∈ acts, In64 a.1 ∧ In64 a.2.1 ∧ In64 a.2.2) (hal : acts.length ≤ 9223372036854775807) :
    Calls Tryd.prog 3 #[.slice p acts.length cap, .int .i64 a, .int .i64 b] w fun e w' => e = .returned (.bool true) ∧ Below w.heap.size w w' := by
  have HT := hide ht
  have HA := hide ha
  have HIN := hide hin
  clear ht ha hin
  go_enter Tryd.func3, Tryd.ntmps3
  go_wp2_with fail
  refine (works_any w HT.out).mono ?_
  rintro e w1 ⟨rfl, hb1⟩
  go_wp2_with fail
  refine (long_any a w1).mono ?_
  rintro e w1 ⟨rfl, rfl⟩
  go_wp2_with fail
  refine (long_any b w1).mono ?_
  rintro e w1 ⟨rfl, rfl⟩
  have HX := hide (w32_in32 a)
  have HY := hide (w32_in32 b)
  generalize wrap32 a = x at *
  generalize wrap32 b = y at *
  go_wp2_with fail
  refine (made_any acts p cap x y w1 (HA.out.below hb1) HIN.out HX.out HY.out hal).mono ?_
  rintro e w2 ⟨l, out, rfl, hok, h2⟩
  have hb2 : Below w.heap.size w w2 := hb1.trans (h2.mono hb1.size)
  clear hb1 h2
  have HOK := hide hok
  clear hok
  have hm : min acts.length 40 ≤ 40 := Nat.min_le_right _ _
  have hsz := HOK.out.size hm
  rw [← bs_size] at hsz
  have HR1 : Hid (∀ (av : Value) (w : World), Tab w → w.ownsRow 0 3 1 av 2 (ints [x, y]) → Calls Tryd.prog 9 #[.string (bs (madeText l)), av, .int .i64 ((min acts.length 40 + 3 : Nat) : Int)] w fun e w' => e = .returned (.tuple #[.int .i64 (out.getD (l.length - 1) 0), .int .i64 ((min acts.length 40 + 3 : Nat) : Int), .int .i64 0]) ∧ Below w.heap.size w w') := hide fun av w => runK1 HOK.out hm HX.out HY.out av w
  have HR2 : Hid (∀ (av : Value) (w : World), Tab w → w.ownsRow 0 3 1 av 2 (ints [x, y]) → Calls Tryd.prog 9 #[.string (bs (madeText l)), av, .int .i64 ((min acts.length 40 + 2 : Nat) : Int)] w fun e w' => e = .returned (.tuple #[.int .i64 0, .int .i64 ((min acts.length 40 + 2 : Nat) : Int), .int .i64 5]) ∧ Below w.heap.size w w') := hide fun av w => runK2 HOK.out hm HX.out HY.out av w
  have HV := hide (HOK.out.in32)
  generalize out.getD (l.length - 1) 0 = r at *
  generalize bs (madeText l) = t at *
  clear HOK HV hm
  by_cases h40 : acts.length ≤ 40
  · have h40' : ¬ (40 : Int) < (acts.length : Int) := by omega
    have h40'' : (acts.length : Int) ≤ 40 := by omega
    rw [Nat.min_eq_left h40] at HR1 HR2
    have HM2 : Hid ((acts.length : Int) + 3 - 1 = ((acts.length + 2 : Nat) : Int)) := hide (by omega)
    go_wp2_with fail
    have hb3 : Below w.heap.size w (w2.alloc (.cells #[.int .i64 x, .int .i64 y] 3)) := below_al hb2 _
    refine (HR1.out _ _ (HT.out.below hb3) (own_ints2 w2 x y rfl (Nat.zero_le _))).mono ?_
    rintro e w3 ⟨rfl, h3⟩
    have hb4 : Below w.heap.size w w3 := hb3.trans (h3.mono hb3.size)
    clear h3 hb3 hb2
    go_wp2_with fail
    simp only [HM2.out]
    have hb5 : Below w.heap.size w (w3.alloc (.cells #[.int .i64 x, .int .i64 y] 3)) := below_al hb4 _
    refine (HR2.out _ _ (HT.out.below hb5) (own_ints2 w3 x y rfl (Nat.zero_le _))).mono ?_
    rintro e w4 ⟨rfl, h4⟩
    have hb6 : Below w.heap.size w w4 := hb5.trans (h4.mono hb5.size)
    clear h4 hb5 hb4
    go_wp2_with fail
    go_ret
    exact ⟨rfl, hb6⟩
  · have h40' : (40 : Int) < (acts.length : Int) := by omega
    rw [Nat.min_eq_right (by omega)] at HR1 HR2
    go_wp2_with fail
    have hb3 : Below w.heap.size w (w2.alloc (.cells #[.int .i64 x, .int .i64 y] 3)) := below_al hb2 _
    refine (HR1.out _ _ (HT.out.below hb3) (own_ints2 w2 x y rfl (Nat.zero_le _))).mono ?_
    rintro e w3 ⟨rfl, h3⟩
    have hb4 : Below w.heap.size w w3 := hb3.trans (h3.mono hb3.size)
    clear h3 hb3 hb2
    go_wp2_with fail
    have hb5 : Below w.heap.size w (w3.alloc (.cells #[.int .i64 x, .int .i64 y] 3)) := below_al hb4 _
    refine (HR2.out _ _ (HT.out.below hb5) (own_ints2 w3 x y rfl (Nat.zero_le _))).mono ?_
    rintro e w4 ⟨rfl, h4⟩
    have hb6 : Below w.heap.size w w4 := hb5.trans (h4.mono hb5.size)
    clear h4 hb5 hb4
    go_wp2_with fail
    go_ret
    exact ⟨rfl, hb6⟩
end Go.Proofs.YtdffpkmabehfbaaDoor
