/-
  Walks: chiselref.number, after, v: what they answer, in the words of Plain.
  Walks: chiselref.arity and weight: which operation, and what it weighs.
  Walks: chiselref.lines and words.
  Walk: chiselref.signed.
  Walk: chiselref.Func.value: a line that is a value.
  Walk: chiselref.Func.value: a line that is a value.
  Walk: chiselref.Func.value: a line that is a value.
  Walk: chiselref.Func.value: a line that is a value.
-/
import Derived.Test.YtedkjanogjglkaaDoorP01
import Derived.Deep.RegionHeld3
import Derived.BigRegion

namespace Go.Proofs.YtedkjanogjglkaaDoor.D
open Go.RowKit

theorem numFold_take_lt (s : ByteArray) (k : Nat) (h2 : s.size ≤ 10) (h : ((bl s).take k).all Ref.isDig = true) : (Ref.numFold 0 ((bl s).take k) : Int) < 10000000000 := by
  have hb := Ref.numFold_lt _ h
  have h3 : ((bl s).take k).length ≤ 10 := by have := List.length_take_le' k (bl s); rw [bl_length] at this; omega
  have h4 : 10 ^ ((bl s).take k).length ≤ 10 ^ 10 := Nat.pow_le_pow_right (by omega) h3
  have h5 : (10 : Nat) ^ 10 = 10000000000 := by decide
  omega

set_option maxRecDepth 100000 in
set_option maxHeartbeats 400000 in
theorem number_loop (s : ByteArray) (w : World) (h1 : 1 ≤ s.size) (h2 : s.size ≤ 10) (h3 : s[0].toNat = 48 → s.size ≤ 1) :
    Calls Tryd.prog 35 #[.string s] w fun e w' => e = .returned (.int .i64 (Ref.numIn (bl s))) ∧ w' = w := by
  have hz : (s[0].toNat : Int) = 48 ∧ s.size ≤ 1 ∨ ¬ (s[0].toNat : Int) = 48 := by
    by_cases h : s[0].toNat = 48
    · exact Or.inl ⟨by omega, h3 h⟩
    · exact Or.inr (by omega)
  clear h3
  rcases hz with ⟨hz, h3⟩ | hz
  all_goals
    go_enter Tryd.func35, Tryd.ntmps35
    go_wp2
    go_loop [3, 4] (fun n i => ∃ k : Nat, k ≤ s.size ∧ i = .int .i64 k ∧ n = .int .i64 (Ref.numFold 0 ((bl s).take k) : Nat) ∧ Hid (((bl s).take k).all Ref.isDig = true)) (fun _ i => s.size - (intOf i).toNat)
    case atStart => exact ⟨0, Nat.zero_le _, rfl, rfl, rfl⟩
    case round =>
      obtain ⟨k, hk, rfl, rfl, hall⟩ := hrel
      have hb := numFold_take_lt s k h2 hall.out
      clear hz
      generalize hm : Ref.numFold 0 ((bl s).take k) = m at hb ⊢
      have HM := hide hm
      have HB := hide hb
      clear hm hb
      by_cases hlt : k < s.size
      · have hmem : s[k] ∈ bl s := List.mem_of_getElem? (bl_get s k hlt)
        have hsn := Ref.numFold_snoc 0 ((bl s).take k) s[k]
        rw [← bl_take_succ s k hlt, HM.out] at hsn
        have hal : ((bl s).take (k + 1)).all Ref.isDig = (((bl s).take k).all Ref.isDig && Ref.isDig s[k]) := by
          rw [bl_take_succ s k hlt, List.all_append]; simp
        have HSN := hide hsn
        have HAL := hide hal
        have HMEM := hide hmem
        clear hsn hal hmem
        by_cases ha : (s[k].toNat : Int) < 48
        · repeat' (first | go_values | go_skip | go_guarded | go_step | go_upon)
          go_ret
          exact ⟨ret_int (Ref.numIn_no _ _ HMEM.out (by simp [Ref.isDig]; omega)).symm, rfl⟩
        · by_cases hb : 57 < (s[k].toNat : Int)
          · repeat' (first | go_values | go_skip | go_guarded | go_step | go_upon)
            go_ret
            exact ⟨ret_int (Ref.numIn_no _ _ HMEM.out (by simp [Ref.isDig]; omega)).symm, rfl⟩
          · have hbb := HB.out
            repeat' (first | go_values | go_skip | go_guarded | go_step | go_upon)
            refine ⟨⟨k + 1, by omega, by go_num, ?_, ?_⟩, ?_⟩
            · rw [HSN.out]; congr 1; omega
            · exact hide (by rw [HAL.out, hall.out]; simp [Ref.isDig]; omega)
            · simp [intOf]; omega
      · have hks : k = s.size := by omega
        have htk : (bl s).take k = bl s := List.take_of_length_le (by rw [bl_length]; omega)
        have hfin : (m : Int) = Ref.numIn (bl s) := by rw [Ref.numIn_yes _ (by rw [← htk]; exact hall.out), ← HM.out, htk]
        have HF := hide hfin
        clear hfin htk hks
        repeat' (first | go_values | go_skip | go_guarded | go_step | go_upon)
        go_ret
        exact ⟨ret_int HF.out, rfl⟩

set_option maxHeartbeats 400000 in
theorem number_any (s : ByteArray) (w : World) (hs : s.size ≤ maxLen) :
    Calls Tryd.prog 35 #[.string s] w fun e w' => e = .returned (.int .i64 (Ref.number (bl s))) ∧ w' = w := by
  unfold maxLen at hs
  by_cases h1 : s.size < 1
  · have HF := hide (Ref.number_no (l := bl s) (Or.inl (by rw [bl_length]; exact h1)))
    go_enter Tryd.func35, Tryd.ntmps35
    repeat' (first | go_values | go_skip | go_guarded | go_step | go_upon)
    go_ret
    exact ⟨ret_int HF.out.symm, rfl⟩
  · by_cases h2 : 10 < s.size
    · have HF := hide (Ref.number_no (l := bl s) (Or.inr (Or.inl (by rw [bl_length]; exact h2))))
      go_enter Tryd.func35, Tryd.ntmps35
      repeat' (first | go_values | go_skip | go_guarded | go_step | go_upon)
      go_ret
      exact ⟨ret_int HF.out.symm, rfl⟩
    · by_cases h3 : s[0].toNat = 48 ∧ 1 < s.size
      · obtain ⟨h3, h4⟩ := h3
        have h5 : s[0] = 48 := UInt8.toNat_inj.1 h3
        have HF := hide (Ref.number_no (l := bl s) (Or.inr (Or.inr ⟨by rw [bl_head s (by omega), h5], by rw [bl_length]; exact h4⟩)))
        have h6 : (s[0].toNat : Int) = 48 := by omega
        clear h5 h3
        go_enter Tryd.func35, Tryd.ntmps35
        repeat' (first | go_values | go_skip | go_guarded | go_step | go_upon)
        go_ret
        exact ⟨ret_int HF.out.symm, rfl⟩
      · refine (number_loop s w (by omega) (by omega) (fun h => by omega)).mono ?_
        rintro e w' ⟨rfl, rfl⟩
        refine ⟨ret_int (Ref.number_in ?_).symm, rfl⟩
        rw [bl_length, bl_head s (by omega)]
        rintro (h | h | ⟨h, h'⟩)
        · omega
        · omega
        · refine h3 ⟨?_, h'⟩
          rw [Option.some.inj h]; rfl

set_option maxHeartbeats 400000 in
theorem after_any (s : ByteArray) (c : UInt8) (w : World) (hs : s.size ≤ maxLen) :
    Calls Tryd.prog 50 #[.string s, .int .u8 c.toNat] w fun e w' => e = .returned (.int .i64 (Ref.after (bl s) c)) ∧ w' = w := by
  unfold maxLen at hs
  by_cases h1 : s.size < 2
  · have HF := hide (Ref.after_no (l := bl s) (c := c) (Or.inl (by rw [bl_length]; exact h1)))
    go_enter Tryd.func50, Tryd.ntmps50
    repeat' (first | go_values | go_skip | go_guarded | go_step | go_upon)
    go_ret
    exact ⟨ret_int HF.out.symm, rfl⟩
  · by_cases h2 : s[0] = c
    · have HF := hide (Ref.after_yes (l := bl s) (c := c) (by rw [bl_length, bl_head s (by omega), h2]; rintro (h | h); exact h1 h; exact h rfl))
      have h3 : ((s[0].toNat : Int) != c.toNat) = false := by rw [h2]; simp
      clear h2
      go_enter Tryd.func50, Tryd.ntmps50
      go_wp2_with fail
      refine (number_any _ w (by simp [maxLen]; omega)).mono ?_
      rintro e w' ⟨rfl, rfl⟩
      go_wp2
      go_ret
      exact ⟨ret_int (by rw [HF.out, bl_extract_end, List.drop_one]), rfl⟩
    · have HF := hide (Ref.after_no (l := bl s) (c := c) (Or.inr (by rw [bl_head s (by omega)]; intro h; exact h2 (Option.some.inj h))))
      have h3 : ((s[0].toNat : Int) != c.toNat) = true := by
        rw [bne_iff_ne]; intro h; exact h2 (UInt8.toNat_inj.1 (by omega))
      clear h2
      go_enter Tryd.func50, Tryd.ntmps50
      go_wp2
      go_ret
      exact ⟨ret_int HF.out.symm, rfl⟩

set_option maxHeartbeats 400000 in
theorem v_any (s : ByteArray) (w : World) (hs : s.size ≤ maxLen) :
    Calls Tryd.prog 47 #[.string s] w fun e w' => e = .returned (.int .i64 (Ref.vnum (bl s))) ∧ w' = w := by
  have hr := Ref.after_range (bl s) 118
  by_cases h : 60 ≤ Ref.after (bl s) 118
  · have HF := hide (Ref.vnum_hi h)
    go_enter Tryd.func47, Tryd.ntmps47
    go_wp2_with fail
    refine (after_any s 118 w hs).mono ?_
    rintro e w' ⟨rfl, rfl⟩
    generalize Ref.after (bl s) 118 = n at *
    go_wp2
    go_ret
    exact ⟨ret_int HF.out.symm, rfl⟩
  · have HF := hide (Ref.vnum_lo h)
    go_enter Tryd.func47, Tryd.ntmps47
    go_wp2_with fail
    refine (after_any s 118 w hs).mono ?_
    rintro e w' ⟨rfl, rfl⟩
    generalize Ref.after (bl s) 118 = n at *
    go_wp2
    go_ret
    exact ⟨ret_int HF.out.symm, rfl⟩

theorem number_bs (l : List UInt8) (w : World) (hl : l.length ≤ 16777216) :
    Calls Tryd.prog 35 #[.string (bs l)] w fun e w' => e = .returned (.int .i64 (Ref.number l)) ∧ w' = w := by
  have h := number_any (bs l) w (by rw [bs_size]; unfold maxLen; omega)
  rw [bl_bs] at h
  exact h

theorem v_bs (l : List UInt8) (w : World) (hl : l.length ≤ 16777216) :
    Calls Tryd.prog 47 #[.string (bs l)] w fun e w' => e = .returned (.int .i64 (Ref.vnum l)) ∧ w' = w := by
  have h := v_any (bs l) w (by rw [bs_size]; unfold maxLen; omega)
  rw [bl_bs] at h
  exact h

theorem after_bs (l : List UInt8) (c : UInt8) (w : World) (hl : l.length ≤ 16777216) :
    Calls Tryd.prog 50 #[.string (bs l), .int .u8 c.toNat] w fun e w' => e = .returned (.int .i64 (Ref.after l c)) ∧ w' = w := by
  have h := after_any (bs l) c w (by rw [bs_size]; unfold maxLen; omega)
  rw [bl_bs] at h
  exact h
end Go.Proofs.YtedkjanogjglkaaDoor.D


namespace Go.Proofs.YtedkjanogjglkaaDoor.D
open Go.RowKit

set_option maxRecDepth 100000 in
set_option maxHeartbeats 2000000 in
theorem arity_any (s : ByteArray) (w : World) :
    Calls Tryd.prog 49 #[.string s] w fun e w' => e = .returned (.int .i64 (Ref.arity (bl s))) ∧ w' = w := by
  by_cases hm : bl s ∈ ([[97, 100, 100], [115, 117, 98], [109, 117, 108], [100, 105, 118], [97, 110, 100], [111, 114], [120, 111, 114], [115, 104, 108], [115, 104, 114], [101, 113], [108, 116], [110, 101, 103], [110, 111, 116]] : List (List UInt8))
  · simp only [List.mem_cons, List.not_mem_nil, or_false] at hm
    rcases hm with h | h | h | h | h | h | h | h | h | h | h | h | h
    all_goals
      rw [of_bl h]
      go_enter Tryd.func49, Tryd.ntmps49
      go_wp2
      go_ret
      exact ⟨ret_int (by decide), rfl⟩
  · have HF : Hid (Ref.arity (bl s) = 0) := hide (Ref.arity_no (fun h => hm (List.mem_append.2 (Or.inl h) : bl s ∈ Ref.twos ++ Ref.ones)) (fun h => hm (List.mem_append.2 (Or.inr h) : bl s ∈ Ref.twos ++ Ref.ones)))
    simp only [List.mem_cons, List.not_mem_nil, or_false, not_or] at hm
    obtain ⟨g0, g1, g2, g3, g4, g5, g6, g7, g8, g9, g10, g11, g12⟩ := hm
    replace g0 := toList_no g0
    replace g1 := toList_no g1
    replace g2 := toList_no g2
    replace g3 := toList_no g3
    replace g4 := toList_no g4
    replace g5 := toList_no g5
    replace g6 := toList_no g6
    replace g7 := toList_no g7
    replace g8 := toList_no g8
    replace g9 := toList_no g9
    replace g10 := toList_no g10
    replace g11 := toList_no g11
    replace g12 := toList_no g12
    go_enter Tryd.func49, Tryd.ntmps49
    go_wp2
    go_ret
    exact ⟨ret_int HF.out.symm, rfl⟩

set_option maxRecDepth 100000 in
set_option maxHeartbeats 2000000 in
theorem weight_any (s : ByteArray) (w : World) :
    Calls Tryd.prog 24 #[.string s] w fun e w' => e = .returned (.int .i64 (Ref.weight (bl s))) ∧ w' = w := by
  by_cases hm : bl s ∈ ([[97, 100, 100], [115, 117, 98], [97, 110, 100], [111, 114], [120, 111, 114], [101, 113], [108, 116], [109, 117, 108], [100, 105, 118], [115, 104, 108], [115, 104, 114], [110, 101, 103], [110, 111, 116], [99, 111, 110, 115, 116]] : List (List UInt8))
  · simp only [List.mem_cons, List.not_mem_nil, or_false] at hm
    rcases hm with h | h | h | h | h | h | h | h | h | h | h | h | h | h
    all_goals
      rw [of_bl h]
      go_enter Tryd.func24, Tryd.ntmps24
      go_wp2
      go_ret
      exact ⟨ret_int (by decide), rfl⟩
  · have HF : Hid (Ref.weight (bl s) = 0) := hide (Ref.weight_no hm)
    simp only [List.mem_cons, List.not_mem_nil, or_false, not_or] at hm
    obtain ⟨g0, g1, g2, g3, g4, g5, g6, g7, g8, g9, g10, g11, g12, g13⟩ := hm
    replace g0 := toList_no g0
    replace g1 := toList_no g1
    replace g2 := toList_no g2
    replace g3 := toList_no g3
    replace g4 := toList_no g4
    replace g5 := toList_no g5
    replace g6 := toList_no g6
    replace g7 := toList_no g7
    replace g8 := toList_no g8
    replace g9 := toList_no g9
    replace g10 := toList_no g10
    replace g11 := toList_no g11
    replace g12 := toList_no g12
    replace g13 := toList_no g13
    go_enter Tryd.func24, Tryd.ntmps24
    go_wp2
    go_ret
    exact ⟨ret_int HF.out.symm, rfl⟩


theorem arity_bs (l : List UInt8) (w : World) :
    Calls Tryd.prog 49 #[.string (bs l)] w fun e w' => e = .returned (.int .i64 (Ref.arity l)) ∧ w' = w := by
  have h := arity_any (bs l) w
  rw [bl_bs] at h
  exact h

theorem weight_bs (l : List UInt8) (w : World) :
    Calls Tryd.prog 24 #[.string (bs l)] w fun e w' => e = .returned (.int .i64 (Ref.weight l)) ∧ w' = w := by
  have h := weight_any (bs l) w
  rw [bl_bs] at h
  exact h
end Go.Proofs.YtedkjanogjglkaaDoor.D


namespace Go.Proofs.YtedkjanogjglkaaDoor.D
open Go.RowKit

/-- A part of a list that grows by one at its end. -/
theorem part_succ (s : ByteArray) (c k : Nat) (hc : c ≤ k) (hk : k < s.size) : ((bl s).drop c).take (k + 1 - c) = ((bl s).drop c).take (k - c) ++ [s[k]] := by
  have e : k + 1 - c = (k - c) + 1 := by omega
  rw [e, List.take_add_one, List.getElem?_drop, show c + (k - c) = k by omega, bl_get s k hk]; rfl

theorem part_nil (l : List UInt8) (c : Nat) : (l.drop c).take (c - c) = [] := by simp

set_option maxRecDepth 100000 in
set_option maxHeartbeats 1000000 in
theorem lines_any (s : ByteArray) (w : World) (hs : s.size ≤ 16777216) :
    Calls Tryd.prog 33 #[.string s] w fun e w' => ∃ v, e = .returned (.tuple #[v, .bool (Ref.lines (bl s)).2]) ∧
      w'.ownsRow w.heap.size 9 1 v (Ref.lines (bl s)).1.length (strs (Ref.lines (bl s)).1) ∧ Below w.heap.size w w' := by
  obtain ⟨i0, hi, hz0, hz1, hz2⟩ := info_parts infoStr
  go_enter Tryd.func33, Tryd.ntmps33
  go_wp2
  go_loopw [4, 5, 6] (fun v b i wr => ∃ (k c : Nat) (ll : List (List UInt8)), c ≤ k ∧ k ≤ s.size ∧ ll.length ≤ k ∧ i = .int .i64 k ∧ b = .int .i64 c ∧ wr.ownsRow w.heap.size 9 1 v ll.length (strs ll) ∧ Below w.heap.size w wr ∧
      Hid (Ref.pre ll (Ref.linesGo ((bl s).drop k) (((bl s).drop c).take (k - c))) = Ref.lines (bl s)))
    (fun _ _ i _ => s.size - (intOf i).toNat)
  case atStart => exact ⟨0, 0, [], by omega, by omega, by simp, rfl, rfl, World.ownsRow_nil _ _ _ _, Below.refl _ _, by simp [Hid, Ref.pre, Ref.lines]⟩
  case round =>
    obtain ⟨k, c, ll, hck, hk, hll, rfl, rfl, hown, hbel, hsp⟩ := hrel
    have hsz := hbel.size
    by_cases hlt : k < s.size
    · by_cases h10 : s[k] = 10
      · have HS : Hid (Ref.pre (ll ++ [((bl s).drop c).take (k - c)]) (Ref.linesGo ((bl s).drop (k + 1)) (((bl s).drop (k + 1)).take (k + 1 - (k + 1)))) = Ref.lines (bl s)) := by
          rw [part_nil, ← hsp.out, bl_drop s k hlt]; exact (Ref.linesGo_end _ _ _ _ h10).symm
        have hc : (s[k].toNat : Int) = 10 := by rw [h10]; rfl
        clear h10 hsp
        go_wp2_with (first | (at_builtin; refine wpList_append_own _ rfl _ _ 66 rfl w.heap.size 9 i0 (.string ByteArray.empty) 1 16 Tryd.underlying66 hi hz0 hz1 hz2 rfl (by decide) _ _ _ rfl (hown.alloc _) ⟨wr.heap.size, 0, none⟩ 1 1 [.string (s.extract c k)] rfl rfl (cell_one_new _ _ _) (fun x hx => by simp at hx; subst hx; rfl) (by unfold maxLen; omega) (by omega) (by simp; omega) ?_; intro v' w3 hown' hgrow3 hnil3))
        refine ⟨⟨k + 1, k + 1, ll ++ [((bl s).drop c).take (k - c)], by omega, by omega, by simp; omega, by go_num, by go_num, ?_, ?_, HS⟩, ?_⟩
        · rw [strs_snoc, List.length_append, ← bs_extract]; exact hown'
        · exact (hbel.alloc hsz _).grown hgrow3 (by simp; omega) (fun j hj => (hown.lt j hj).1)
        · simp [intOf]; omega
      · have HS : Hid (Ref.pre ll (Ref.linesGo ((bl s).drop (k + 1)) (((bl s).drop c).take (k + 1 - c))) = Ref.lines (bl s)) := by
          rw [part_succ s c k hck hlt, ← hsp.out, bl_drop s k hlt, Ref.linesGo_on _ _ _ h10]
          exact rfl
        have hc : ¬ (s[k].toNat : Int) = 10 := fun h => h10 (UInt8.toNat_inj.1 (by rw [show ((10 : UInt8).toNat) = 10 from rfl]; omega))
        clear h10 hsp
        go_wp2
        exact ⟨⟨k + 1, c, ll, by omega, by omega, by omega, by go_num, rfl, hown, hbel, HS⟩, by simp [intOf]; omega⟩
    · have hks : k = s.size := by omega
      have HS : Hid (ll = (Ref.lines (bl s)).1) := by
        have h := hsp.out
        rw [List.drop_of_length_le (by rw [bl_length]; omega)] at h
        rw [← h]; simp [Hid, Ref.pre, Ref.linesGo]
      have HB : Hid (decide (c = s.size) = (Ref.lines (bl s)).2) := by
        have h := hsp.out
        rw [List.drop_of_length_le (i := k) (by rw [bl_length]; omega)] at h
        rw [← h]
        show _ = ((((bl s).drop c).take (k - c)).isEmpty)
        rw [Bool.eq_iff_iff]
        simp only [decide_eq_true_eq, List.isEmpty_iff, ← List.length_eq_zero_iff, List.length_take, List.length_drop, bl_length]
        omega
      clear hsp
      go_wp2
      go_ret2
      refine ⟨u4, ret_vb rfl ?_, ?_, hbel⟩
      · rw [← HB.out, Bool.eq_iff_iff]; simp; omega
      · rw [← HS.out]; exact hown

set_option maxRecDepth 100000 in
set_option maxHeartbeats 1000000 in
theorem words_any (s : ByteArray) (w : World) (hs : s.size ≤ 16777216) :
    Calls Tryd.prog 34 #[.string s] w fun e w' => ∃ v, e = .returned v ∧
      w'.ownsRow w.heap.size 9 1 v (Ref.words (bl s)).length (strs (Ref.words (bl s))) ∧ Below w.heap.size w w' := by
  obtain ⟨i0, hi, hz0, hz1, hz2⟩ := info_parts infoStr
  go_enter Tryd.func34, Tryd.ntmps34
  go_wp2
  go_loopw [3, 4, 5] (fun v b i wr => ∃ (k c : Nat) (ll : List (List UInt8)), ll.length ≤ k ∧ i = .int .i64 k ∧ b = .int .i64 c ∧ k ≤ s.size + 1 ∧ wr.ownsRow w.heap.size 9 1 v ll.length (strs ll) ∧ Below w.heap.size w wr ∧
      (k ≤ s.size → c ≤ k) ∧ Hid ((k ≤ s.size ∧ ll ++ Ref.wordsGo ((bl s).drop k) (((bl s).drop c).take (k - c)) = Ref.words (bl s)) ∨ (k = s.size + 1 ∧ ll = Ref.words (bl s))))
    (fun _ _ i _ => s.size + 1 - (intOf i).toNat)
  case atStart => exact ⟨0, 0, [], by simp, rfl, rfl, by omega, World.ownsRow_nil _ _ _ _, Below.refl _ _, by omega, Or.inl ⟨by omega, by simp [Ref.words]⟩⟩
  case round =>
    obtain ⟨k, c, ll, hll, rfl, rfl, hk, hown, hbel, hck, hsp⟩ := hrel
    have hsz := hbel.size
    by_cases hle : k ≤ s.size
    · have hck' := hck hle
      have hsp' : ll ++ Ref.wordsGo ((bl s).drop k) (((bl s).drop c).take (k - c)) = Ref.words (bl s) := by
        rcases hsp.out with h | h
        · exact h.2
        · omega
      clear hsp hck
      by_cases hlt : k < s.size
      · by_cases h32 : s[k] = 32
        · have HS : Hid (ll ++ [((bl s).drop c).take (k - c)] ++ Ref.wordsGo ((bl s).drop (k + 1)) (((bl s).drop (k + 1)).take (k + 1 - (k + 1))) = Ref.words (bl s)) := by
            rw [part_nil, ← hsp', bl_drop s k hlt]; exact (Ref.wordsGo_end _ _ _ _ h32).symm
          have hc : (s[k].toNat : Int) = 32 := by rw [h32]; rfl
          have hne : ((k : Int) == (s.size : Int)) = false := beq_eq_false_iff_ne.2 (by omega)
          clear h32 hsp'
          go_wp2_with (first | (at_builtin; refine wpList_append_own _ rfl _ _ 66 rfl w.heap.size 9 i0 (.string ByteArray.empty) 1 16 Tryd.underlying66 hi hz0 hz1 hz2 rfl (by decide) _ _ _ rfl (hown.alloc _) ⟨wr.heap.size, 0, none⟩ 1 1 [.string (s.extract c k)] rfl rfl (cell_one_new _ _ _) (fun x hx => by simp at hx; subst hx; rfl) (by unfold maxLen; omega) (by omega) (by simp; omega) ?_; intro v' w3 hown' hgrow3 hnil3))
          refine ⟨⟨k + 1, k + 1, ll ++ [((bl s).drop c).take (k - c)], by simp; omega, by go_num, by go_num, by omega, ?_, ?_, by omega, Or.inl ⟨by omega, HS.out⟩⟩, ?_⟩
          · rw [strs_snoc, List.length_append, ← bs_extract]; exact hown'
          · exact (hbel.alloc hsz _).grown hgrow3 (by simp; omega) (fun j hj => (hown.lt j hj).1)
          · simp [intOf]; omega
        · have HS : Hid (ll ++ Ref.wordsGo ((bl s).drop (k + 1)) (((bl s).drop c).take (k + 1 - c)) = Ref.words (bl s)) := by
            rw [part_succ s c k hck' hlt, ← hsp', bl_drop s k hlt, Ref.wordsGo_on _ _ _ h32]
            exact rfl
          have hc : ¬ (s[k].toNat : Int) = 32 := fun h => h32 (UInt8.toNat_inj.1 (by rw [show ((32 : UInt8).toNat) = 32 from rfl]; omega))
          have hne : ((k : Int) == (s.size : Int)) = false := beq_eq_false_iff_ne.2 (by omega)
          clear h32 hsp'
          go_wp2
          exact ⟨⟨k + 1, c, ll, by omega, by go_num, rfl, by omega, hown, hbel, by omega, Or.inl ⟨by omega, HS.out⟩⟩, by simp [intOf]; omega⟩
      · have hks : ((k : Int) == (s.size : Int)) = true := beq_iff_eq.2 (by omega)
        have HS : Hid (ll ++ [((bl s).drop c).take (k - c)] = Ref.words (bl s)) := by
          rw [← hsp', List.drop_of_length_le (i := k) (by rw [bl_length]; omega)]; exact rfl
        clear hsp'
        go_wp2_with (first | (at_builtin; refine wpList_append_own _ rfl _ _ 66 rfl w.heap.size 9 i0 (.string ByteArray.empty) 1 16 Tryd.underlying66 hi hz0 hz1 hz2 rfl (by decide) _ _ _ rfl (hown.alloc _) ⟨wr.heap.size, 0, none⟩ 1 1 [.string (s.extract c k)] rfl rfl (cell_one_new _ _ _) (fun x hx => by simp at hx; subst hx; rfl) (by unfold maxLen; omega) (by omega) (by simp; omega) ?_; intro v' w3 hown' hgrow3 hnil3))
        refine ⟨⟨k + 1, k + 1, ll ++ [((bl s).drop c).take (k - c)], by simp; omega, by go_num, by go_num, by omega, ?_, ?_, by omega, Or.inr ⟨by omega, HS.out⟩⟩, ?_⟩
        · rw [strs_snoc, List.length_append, ← bs_extract]; exact hown'
        · exact (hbel.alloc hsz _).grown hgrow3 (by simp; omega) (fun j hj => (hown.lt j hj).1)
        · simp [intOf]; omega
    · have HS : Hid (ll = Ref.words (bl s)) := by
        rcases hsp.out with h | h
        · omega
        · exact h.2
      clear hsp hck
      go_wp2
      go_ret
      exact ⟨u3, rfl, by rw [← HS.out]; exact hown, hbel⟩
end Go.Proofs.YtedkjanogjglkaaDoor.D


namespace Go.Proofs.YtedkjanogjglkaaDoor.D
open Go.RowKit

theorem ret_pairS {a : Int} {b : Bool} {p : Int × Bool} (h : p = (a, b)) : Ending.returned (.tuple #[.int .i64 a, .bool b]) = .returned (.tuple #[.int .i64 p.1, .bool p.2]) := by rw [h]

set_option maxRecDepth 100000 in
set_option maxHeartbeats 1000000 in
theorem signed_any (s : ByteArray) (w : World) (hs : s.size ≤ 16777216) :
    Calls Tryd.prog 48 #[.string s] w fun e w' => e = .returned (.tuple #[.int .i64 (Ref.signed (bl s)).1, .bool (Ref.signed (bl s)).2]) ∧ w' = w := by
  by_cases h1 : (bl s).head? = some 45
  · have hne : 0 < s.size := by
      rw [← bl_length]
      rcases hb : bl s with _ | ⟨a, t⟩
      · rw [hb] at h1; cases h1
      · simp
    have h45 : (s[0].toNat : Int) = 45 := by rw [bl_head s hne] at h1; rw [Option.some.inj h1]; rfl
    have hr := Ref.number_range (bl s).tail
    have hSp : Ref.signed (bl s) = Ref.signedOf true (Ref.number (bl s).tail) := by simp only [Ref.signed, if_pos h1]
    have HP := hide hSp
    clear hSp h1
    go_enter Tryd.func48, Tryd.ntmps48
    go_wp2_with fail
    refine (number_any _ w (by simp [maxLen]; omega)).mono ?_
    rintro e w' ⟨rfl, rfl⟩
    rw [bl_extract_end, List.drop_one]
    generalize Ref.number (bl s).tail = n at *
    obtain ⟨hr1, hr2⟩ := hr
    by_cases hn : n < 0
    · have HF := hide (Ref.signedOf_bad (b := true) (n := n) (Or.inl hn))
      go_wp2
      go_ret2
      exact ⟨ret_pairS (HP.out.trans HF.out), rfl⟩
    · by_cases hz : n = 0
      · have HF := hide (Ref.signedOf_bad (b := true) (n := n) (Or.inr ⟨rfl, hz⟩))
        go_wp2
        go_ret2
        exact ⟨ret_pairS (HP.out.trans HF.out), rfl⟩
      · have HF := hide (Ref.signedOf_neg (n := n) (by omega))
        have hnz : (n == 0) = false := beq_eq_false_iff_ne.2 hz
        by_cases hq : -2147483648 ≤ -n
        · go_wp2
          go_ret2
          exact ⟨ret_pairS (by rw [HP.out, HF.out, Ref.inRange]; simp; omega), rfl⟩
        · go_wp2
          go_ret2
          exact ⟨ret_pairS (by rw [HP.out, HF.out, Ref.inRange]; simp; omega), rfl⟩
  · have hSp : Ref.signed (bl s) = Ref.signedOf false (Ref.number (bl s)) := by simp only [Ref.signed, if_neg h1]
    have HP := hide hSp
    have hr := Ref.number_range (bl s)
    have h45 : s.size = 0 ∨ (0 < s.size ∧ ∀ h : 0 < s.size, ¬ (s[0].toNat : Int) = 45) := by
      by_cases hz : s.size = 0
      · exact Or.inl hz
      · refine Or.inr ⟨by omega, fun hp h => h1 ?_⟩
        rw [bl_head s hp]
        congr 1
        exact UInt8.toNat_inj.1 (by rw [show ((45 : UInt8).toNat) = 45 from rfl]; omega)
    clear hSp h1
    rcases h45 with h45 | ⟨hp, h45⟩
    · go_enter Tryd.func48, Tryd.ntmps48
      go_wp2_with fail
      refine (number_any _ w (by simp [maxLen]; omega)).mono ?_
      rintro e w' ⟨rfl, rfl⟩
      generalize Ref.number (bl s) = n at *
      obtain ⟨hr1, hr2⟩ := hr
      by_cases hn : n < 0
      · have HF := hide (Ref.signedOf_bad (b := false) (n := n) (Or.inl hn))
        go_wp2
        go_ret2
        exact ⟨ret_pairS (HP.out.trans HF.out), rfl⟩
      · have HF := hide (Ref.signedOf_pos (n := n) (by omega))
        go_wp2
        go_ret2
        exact ⟨ret_pairS (by rw [HP.out, HF.out, Ref.inRange]; simp; omega), rfl⟩
    · replace h45 := h45 hp
      go_enter Tryd.func48, Tryd.ntmps48
      go_wp2_with fail
      refine (number_any _ w (by simp [maxLen]; omega)).mono ?_
      rintro e w' ⟨rfl, rfl⟩
      generalize Ref.number (bl s) = n at *
      obtain ⟨hr1, hr2⟩ := hr
      by_cases hn : n < 0
      · have HF := hide (Ref.signedOf_bad (b := false) (n := n) (Or.inl hn))
        go_wp2
        go_ret2
        exact ⟨ret_pairS (HP.out.trans HF.out), rfl⟩
      · have HF := hide (Ref.signedOf_pos (n := n) (by omega))
        go_wp2
        go_ret2
        exact ⟨ret_pairS (by rw [HP.out, HF.out, Ref.inRange]; simp; omega), rfl⟩

theorem signed_bs (l : List UInt8) (w : World) (hl : l.length ≤ 16777216) :
    Calls Tryd.prog 48 #[.string (bs l)] w fun e w' => e = .returned (.tuple #[.int .i64 (Ref.signed l).1, .bool (Ref.signed l).2]) ∧ w' = w := by
  have h := signed_any (bs l) w (by rw [bs_size]; omega)
  rw [bl_bs] at h
  exact h
end Go.Proofs.YtedkjanogjglkaaDoor.D


namespace Go.Proofs.YtedkjanogjglkaaDoor.D
open Go.RowKit

set_option maxRecDepth 100000 in
set_option maxHeartbeats 1000000 in
theorem value_const (s : ByteArray) (phis : Bool) (f : Addr) (w : World) (hs : s.size ≤ 16777216) (a0 a3 : List UInt8) (hws : Hid (Ref.words (bl s) = [a0, [61], Ref.sConst, a3])) (hl0 : a0.length ≤ 16777216) (hl3 : a3.length ≤ 16777216) :
    Calls Tryd.prog 37 #[.pointer (some f), .string s, .bool phis] w fun e w' => ∃ a, e = .returned (.tuple #[.agg (valCells ⟨Ref.vnum a0, Ref.sConst, (Ref.signed a3).1, []⟩ a), .bool (decide (0 ≤ Ref.vnum a0) && (Ref.signed a3).2)]) ∧
      w'.ownsRow w.heap.size 3 1 a 0 [] ∧ Below w.heap.size w w' := by
  have e1 : ((bs [61]).toList == [61]) = true := toList_yes (bl_bs _)
  have e2 : ((bs Ref.sConst).toList == [99, 111, 110, 115, 116]) = true := toList_yes (bl_bs _)
  go_enter Tryd.func37, Tryd.ntmps37
  go_wp2_with fail
  refine (words_any s _ hs).mono ?_
  rintro e w1 ⟨v, rfl, hown, hbel⟩
  rw [hws.out] at hown
  obtain ⟨g, cap, rfl, hg1, hg2, hc⟩ := row_open hown (by simp)
  have c0 := hc 0 _ (strs_get [a0, [61], Ref.sConst, a3] 0 (by simp))
  have c1 := hc 1 _ (strs_get [a0, [61], Ref.sConst, a3] 1 (by simp))
  have c2 := hc 2 _ (strs_get [a0, [61], Ref.sConst, a3] 2 (by simp))
  have c3 := hc 3 _ (strs_get [a0, [61], Ref.sConst, a3] 3 (by simp))
  clear hc hown
  obtain ⟨r0, r1, r2, r3, r4, r5, r6, r7⟩ := blk4 (kept_new hbel)
  have hv := hide (fun W => v_bs a0 W hl0)
  have hz := hbel.size
  simp only [World.size_alloc, List.getElem_cons_zero, List.getElem_cons_succ, List.length_cons, List.length_nil, Nat.zero_add, Nat.reduceAdd] at hz hg1 c0 c1 c2 c3 ⊢
  go_wp2_with fail
  have hz1 : w.heap.size < w1.heap.size := by omega
  have hz2 : ¬ w.heap.size = w1.heap.size := by omega
  have n0 := World.new_ne w1 ⟨g, 0, none⟩ c0
  go_region_held3 (fun w' => w'.cell? ⟨g, 0, none⟩ = some (.string (bs a0)) ∧ w'.cell? ⟨g, 2, none⟩ = some (.string (bs Ref.sConst))) (go_keep) (first | (go_at_call 47; refine (hv.out _).mono ?_; rintro e w' ⟨rfl, rfl⟩))
  all_goals
    go_wp2_with fail
    refine (signed_bs a3 _ hl3).mono ?_
    rintro e w' ⟨rfl, rfl⟩
    have hbe := below_of_new hbel
    by_cases hV : 0 ≤ Ref.vnum a0
    · go_wp2_with fail
      refine bodyPost_ret (v := .tuple #[.agg #[.int .i64 (Ref.vnum a0), .string (bs Ref.sConst), .int .i64 (Ref.signed a3).1, .slice none 0 0], .bool (Ref.signed a3).2]) (by simp [results, Tryd.results37, go_sem, r0, r1, r2, r3, hz1]) rfl ⟨.slice none 0 0, ?_, World.ownsRow_nil _ _ _ _, ?_⟩
      · rw [decide_eq_true hV]; rfl
      · repeat' (first | exact hbe | apply Below.drew | apply below_set0 | apply below_al)
    · go_wp2_with fail
      refine bodyPost_ret (v := .tuple #[.agg #[.int .i64 (Ref.vnum a0), .string (bs Ref.sConst), .int .i64 (Ref.signed a3).1, .slice none 0 0], .bool false]) (by simp [results, Tryd.results37, go_sem, r0, r1, r2, r3, hz1]) rfl ⟨.slice none 0 0, ?_, World.ownsRow_nil _ _ _ _, ?_⟩
      · rw [decide_eq_false (by omega)]; rfl
      · repeat' (first | exact hbe | apply Below.drew | apply below_set0 | apply below_al)
end Go.Proofs.YtedkjanogjglkaaDoor.D


namespace Go.Proofs.YtedkjanogjglkaaDoor.D
open Go.RowKit


set_option maxRecDepth 100000 in
set_option maxHeartbeats 4000000 in
theorem value_phi (s : ByteArray) (phis : Bool) (f : Addr) (w : World) (hs : s.size ≤ 16777216) (a0 : List UInt8) (r : List (List UInt8)) (hws : Hid (Ref.words (bl s) = a0 :: [61] :: Ref.sPhi :: r)) (hl0 : a0.length ≤ 16777216) (hr : r.length ≤ 16777216) (hlr : ∀ j (h : j < r.length), r[j].length ≤ 16777216) :
    Calls Tryd.prog 37 #[.pointer (some f), .string s, .bool phis] w fun e w' => ∃ a, e = .returned (.tuple #[.agg (valCells ⟨Ref.vnum a0, Ref.sPhi, 0, r.map Ref.vnum⟩ a), .bool (Ref.vAll (Ref.phiOk a0 phis) r)]) ∧
      w'.ownsRow w.heap.size 3 1 a r.length (ints (r.map Ref.vnum)) ∧ Below w.heap.size w w' := by
  have e1 : ((bs [61]).toList == [61]) = true := toList_yes (bl_bs _)
  have e2 : ((bs Ref.sPhi).toList == [99, 111, 110, 115, 116]) = false := toList_no (by rw [bl_bs]; decide)
  have e3 : ((bs Ref.sPhi).toList == [97, 114, 103]) = false := toList_no (by rw [bl_bs]; decide)
  have e4 : ((bs Ref.sPhi).toList == [112, 104, 105]) = true := toList_yes (bl_bs _)
  obtain ⟨i0, hi, hi0, hi1, hi2⟩ := info_parts infoInt
  go_enter Tryd.func37, Tryd.ntmps37
  go_wp2_with fail
  refine (words_any s _ hs).mono ?_
  rintro e w1 ⟨v, rfl, hown, hbel⟩
  rw [hws.out] at hown
  obtain ⟨g, cap, rfl, hg1, hg2, hc⟩ := row_open hown (by simp)
  have c0 := hc 0 _ (strs_get (a0 :: [61] :: Ref.sPhi :: r) 0 (by simp))
  have c1 := hc 1 _ (strs_get (a0 :: [61] :: Ref.sPhi :: r) 1 (by simp))
  have c2 := hc 2 _ (strs_get (a0 :: [61] :: Ref.sPhi :: r) 2 (by simp))
  clear hc
  have rb := kept_new hbel
  obtain ⟨r0, r1, r2, r3, r4, r5, r6, r7⟩ := blk4 rb
  have RB := hide rb
  clear rb
  have hv := hide (fun W => v_bs a0 W hl0)
  have hz := hbel.size
  have hown' := own_base (base' := w.heap.size) hown (by simp)
  simp only [List.length_cons] at hown'
  clear hown
  simp only [World.size_alloc, List.getElem_cons_zero, List.getElem_cons_succ, List.length_cons] at hz hg1 c0 c1 c2 ⊢
  have hlen : r.length + 1 + 1 + 1 ≤ 16777219 := by omega
  have hlen2 : 3 ≤ r.length + 1 + 1 + 1 := by omega
  generalize hn : r.length + 1 + 1 + 1 = n at *
  have HN := hide hn
  clear hn
  have q0 : (0 : Int) < (n : Int) := by omega
  have q2 : (2 : Int) < (n : Int) := by omega
  have q1 : 0 < n := by omega
  have HO := hide hown'
  clear hown'
  go_wp2_with fail
  have hz1 : w.heap.size < w1.heap.size := by omega
  have hz2 : ¬ w.heap.size = w1.heap.size := by omega
  have n0 := World.new_ne w1 ⟨g, 0, none⟩ c0
  go_region_held3 (fun w' => w'.cell? ⟨g, 0, none⟩ = some (.string (bs a0)) ∧ w'.cell? ⟨g, 2, none⟩ = some (.string (bs Ref.sPhi))) (go_keep) (first | (go_at_call 47; refine (hv.out _).mono ?_; rintro e w' ⟨rfl, rfl⟩))
  all_goals
    have hbe := below_of_new hbel
    rcases phi_cases a0 phis with ⟨hV, HB⟩ | ⟨hV, HB⟩
    all_goals
      generalize hBB : (Ref.phiOk a0 phis) = B at HB
      have HBB := hide hBB
      clear hBB
      go_wp2_with fail
      go_loopw [10, 13, 14] (fun ok i _ wr => ∃ (k : Nat) (a : Value), k ≤ r.length ∧ i = .int .i64 ((3 + k : Nat) : Int) ∧ ok = .bool (Ref.vAll B (r.take k)) ∧ wr.heap[w1.heap.size]? = some (.cells #[.int .i64 (Ref.vnum a0), .string (bs Ref.sPhi), .int .i64 0, a] 58) ∧
          wr.ownsRow w.heap.size 3 1 a k (ints ((r.take k).map Ref.vnum)) ∧ wr.heap[w.heap.size]? = some (.cells #[.int .i64 0, .string { data := #[] }, .int .i64 0, .slice none 0 0] 58) ∧
          wr.ownsRow w.heap.size 9 1 (.slice (some ⟨g, 0, none⟩) n cap) n (strs (a0 :: [61] :: Ref.sPhi :: r)) ∧ Below w.heap.size w wr)
        (fun _ i _ _ => n - (intOf i).toNat)
      case atStart =>
        refine ⟨0, .slice none 0 0, by omega, rfl, ?_, heap_alloc_new _ _, World.ownsRow_nil _ _ _ _, stay_alloc RB.out, ?_, ?_⟩
        · rw [HB.out]; simp [Ref.vAll]
        · exact own_drew (HO.out.alloc _)
        · exact (below_al hbe _).drew
      case round =>
        obtain ⟨k, a, hk, rfl, rfl, hxb, hrow, hrb, hwr, hbw⟩ := hrel
        have hnr : n = r.length + 3 := by have := HN.out; omega
        have HNR := hide hnr
        clear hnr
        have hxb' := hide hxb
        have hrb' := hide hrb
        obtain ⟨x0, x1, x2, x3, x4, x5, x6, x7⟩ := blk4 hxb
        obtain ⟨y0, y1, y2, y3, y4, y5, y6, y7⟩ := blk4 hrb
        clear hxb hrb
        by_cases hlt : k < r.length
        · have hkn : 3 + k < n := by have := HNR.out; omega
          have ck : wr.cell? ⟨g, 3 + k, none⟩ = some (.string (bs r[k])) := by
            have h := hwr.cells (g := g) rfl (3 + k) (.string (bs r[k])) (by simp [strs, show 3 + k = k + 1 + 1 + 1 by omega, hlt])
            rwa [addr_add] at h
          have HV := hide (vAll_snoc B r k hlt)
          have HM := hide (vnum_snoc r k hlt)
          have hlk := hlr k hlt
          generalize hb : Ref.vAll B (r.take k) = b at *
          clear hb hws
          go_wp2_with fail
          refine (v_bs r[k] _ hlk).mono ?_
          rintro e wr ⟨rfl, rfl⟩
          have hbk := hbw.size
          cases b
          all_goals
            go_wp2_with (first | (at_builtin; refine wpList_append_own _ rfl _ _ 33 rfl w.heap.size 3 i0 (.int .i64 0) 1 8 Tryd.underlying33 hi hi0 hi1 hi2 rfl (by decide) _ _ _ rfl (hrow.alloc _) ⟨wr.heap.size, 0, none⟩ 1 1 [.int .i64 (Ref.vnum r[k])] rfl rfl (cell_one_new _ _ _) (fun x hx => by simp at hx; subst hx; rfl) (by unfold maxLen; omega) (by omega) (by simp; omega) ?_; intro v' w3 hown' hgrow3 hnil3; have z3 := hide (stay_grown (hrow.alloc _) hgrow3 (stay_alloc hxb'.out) (by decide)); obtain ⟨z0, z1, z2, z3', z4, z5, z6, z7⟩ := blk4 z3.out; obtain ⟨g3, cap3, hv3, -, -, -⟩ := row_open hown' (by omega); subst hv3))
            refine ⟨⟨k + 1, _, by omega, by go_num, congrArg Value.bool (by rw [HV.out]; simp), set_block z3.out, ?_, ?_, ?_, ?_⟩, ?_⟩
            · rw [HM.out, ints_snoc]; exact own_set hown' z3.out (by decide)
            · exact stay_set (stay_grown (hrow.alloc _) hgrow3 (stay_alloc hrb'.out) (by decide)) hz2
            · exact own_set (own_grown (hrow.alloc _) (hwr.alloc _) (by decide) hgrow3) z3.out (by decide)
            · exact below_set ((below_al hbw _).grown hgrow3 (by simp; omega) (fun j hj => (hrow.lt j hj).1)) (by omega) 3 _
            · simp [intOf]; omega
        · have hkr : Hid (r.take k = r) := List.take_of_length_le (by omega)
          have hke : Hid (k = r.length) := hide (by omega)
          obtain ⟨pa, ca, ha⟩ := own_slice hrow
          subst ha
          have hkn : ¬ ((3 + k : Nat) : Int) < (n : Int) := by have := HNR.out; omega
          go_wp2_with fail
          refine bodyPost_ret (v := .tuple #[.agg #[.int .i64 (Ref.vnum a0), .string (bs Ref.sPhi), .int .i64 0, .slice pa k ca], .bool (Ref.vAll B (r.take k))]) (by simp [results, Tryd.results37, go_sem, y0, y1, y2, y3]) rfl ⟨.slice pa k ca, ?_, ?_, ?_⟩
          · rw [hkr.out, HBB.out]; rfl
          · have hr2 := hrow
            rw [hkr.out] at hr2
            rw [← hke.out]
            exact own_set4 hr2 hrb'.out (by decide)
          · repeat' (first | exact hbw | apply Below.drew | apply below_set0 | apply below_al)

end Go.Proofs.YtedkjanogjglkaaDoor.D


namespace Go.Proofs.YtedkjanogjglkaaDoor.D
open Go.RowKit


set_option maxRecDepth 100000 in
set_option maxHeartbeats 4000000 in
theorem value_op (s : ByteArray) (phis : Bool) (f : Addr) (w : World) (hs : s.size ≤ 16777216) (a0 : List UInt8) (op : List UInt8) (r : List (List UInt8)) (hws : Hid (Ref.words (bl s) = a0 :: [61] :: op :: r)) (hl0 : a0.length ≤ 16777216) (hr : r.length ≤ 16777216) (hlr : ∀ j (h : j < r.length), r[j].length ≤ 16777216) (hop : op ≠ Ref.sConst ∧ op ≠ Ref.sArg ∧ op ≠ Ref.sPhi) :
    Calls Tryd.prog 37 #[.pointer (some f), .string s, .bool phis] w fun e w' => ∃ a, e = .returned (.tuple #[.agg (valCells ⟨Ref.vnum a0, op, 0, r.map Ref.vnum⟩ a), .bool (Ref.vAll (Ref.opOk a0 op (r.length + 1 + 1 + 1)) r)]) ∧
      w'.ownsRow w.heap.size 3 1 a r.length (ints (r.map Ref.vnum)) ∧ Below w.heap.size w w' := by
  have e1 : ((bs [61]).toList == [61]) = true := toList_yes (bl_bs _)
  have e2 : ((bs op).toList == [99, 111, 110, 115, 116]) = false := toList_no (by rw [bl_bs]; exact hop.1)
  have e3 : ((bs op).toList == [97, 114, 103]) = false := toList_no (by rw [bl_bs]; exact hop.2.1)
  have e4 : ((bs op).toList == [112, 104, 105]) = false := toList_no (by rw [bl_bs]; exact hop.2.2)
  clear hop
  have har := Ref.arity_range op
  obtain ⟨i0, hi, hi0, hi1, hi2⟩ := info_parts infoInt
  go_enter Tryd.func37, Tryd.ntmps37
  go_wp2_with fail
  refine (words_any s _ hs).mono ?_
  rintro e w1 ⟨v, rfl, hown, hbel⟩
  rw [hws.out] at hown
  obtain ⟨g, cap, rfl, hg1, hg2, hc⟩ := row_open hown (by simp)
  have c0 := hc 0 _ (strs_get (a0 :: [61] :: op :: r) 0 (by simp))
  have c1 := hc 1 _ (strs_get (a0 :: [61] :: op :: r) 1 (by simp))
  have c2 := hc 2 _ (strs_get (a0 :: [61] :: op :: r) 2 (by simp))
  clear hc
  have rb := kept_new hbel
  obtain ⟨r0, r1, r2, r3, r4, r5, r6, r7⟩ := blk4 rb
  have RB := hide rb
  clear rb
  have hv := hide (fun W => v_bs a0 W hl0)
  have hz := hbel.size
  have hown' := own_base (base' := w.heap.size) hown (by simp)
  simp only [List.length_cons] at hown'
  clear hown
  simp only [World.size_alloc, List.getElem_cons_zero, List.getElem_cons_succ, List.length_cons] at hz hg1 c0 c1 c2 ⊢
  have hlen : r.length + 1 + 1 + 1 ≤ 16777219 := by omega
  have hlen2 : 3 ≤ r.length + 1 + 1 + 1 := by omega
  generalize hn : r.length + 1 + 1 + 1 = n at *
  have HN := hide hn
  clear hn
  have q0 : (0 : Int) < (n : Int) := by omega
  have q2 : (2 : Int) < (n : Int) := by omega
  have q1 : 0 < n := by omega
  have HO := hide hown'
  clear hown'
  go_wp2_with fail
  have hz1 : w.heap.size < w1.heap.size := by omega
  have hz2 : ¬ w.heap.size = w1.heap.size := by omega
  have n0 := World.new_ne w1 ⟨g, 0, none⟩ c0
  go_region_held3 (fun w' => w'.cell? ⟨g, 0, none⟩ = some (.string (bs a0)) ∧ w'.cell? ⟨g, 2, none⟩ = some (.string (bs op))) (go_keep) (first | (go_at_call 47; refine (hv.out _).mono ?_; rintro e w' ⟨rfl, rfl⟩))
  all_goals
    have hbe := below_of_new hbel
    rcases op_cases a0 op n with ⟨hV, hA, hE2, HB⟩ | ⟨hV, hA, hE2, HB⟩ | ⟨hV, hA, hE2, HB⟩ | ⟨hV, hA, hE2, HB⟩
    all_goals
      generalize hBB : (Ref.opOk a0 op n) = B at HB
      have HBB := hide hBB
      clear hBB
      go_wp2_with fail
      refine (arity_bs op _).mono ?_
      rintro e w' ⟨rfl, rfl⟩
      generalize Ref.arity op = ar at *
      go_wp2_with fail
      go_loopw [10, 13, 14] (fun ok i _ wr => ∃ (k : Nat) (a : Value), k ≤ r.length ∧ i = .int .i64 ((3 + k : Nat) : Int) ∧ ok = .bool (Ref.vAll B (r.take k)) ∧ wr.heap[w1.heap.size]? = some (.cells #[.int .i64 (Ref.vnum a0), .string (bs op), .int .i64 0, a] 58) ∧
          wr.ownsRow w.heap.size 3 1 a k (ints ((r.take k).map Ref.vnum)) ∧ wr.heap[w.heap.size]? = some (.cells #[.int .i64 0, .string { data := #[] }, .int .i64 0, .slice none 0 0] 58) ∧
          wr.ownsRow w.heap.size 9 1 (.slice (some ⟨g, 0, none⟩) n cap) n (strs (a0 :: [61] :: op :: r)) ∧ Below w.heap.size w wr)
        (fun _ i _ _ => n - (intOf i).toNat)
      case atStart =>
        refine ⟨0, .slice none 0 0, by omega, rfl, ?_, heap_alloc_new _ _, World.ownsRow_nil _ _ _ _, stay_alloc RB.out, ?_, ?_⟩
        · rw [HB.out]; simp [Ref.vAll]
        · exact own_drew (HO.out.alloc _)
        · exact (below_al hbe _).drew
      case round =>
        obtain ⟨k, a, hk, rfl, rfl, hxb, hrow, hrb, hwr, hbw⟩ := hrel
        have hnr : n = r.length + 3 := by have := HN.out; omega
        have HNR := hide hnr
        clear hnr
        have hxb' := hide hxb
        have hrb' := hide hrb
        obtain ⟨x0, x1, x2, x3, x4, x5, x6, x7⟩ := blk4 hxb
        obtain ⟨y0, y1, y2, y3, y4, y5, y6, y7⟩ := blk4 hrb
        clear hxb hrb
        by_cases hlt : k < r.length
        · have hkn : 3 + k < n := by have := HNR.out; omega
          have ck : wr.cell? ⟨g, 3 + k, none⟩ = some (.string (bs r[k])) := by
            have h := hwr.cells (g := g) rfl (3 + k) (.string (bs r[k])) (by simp [strs, show 3 + k = k + 1 + 1 + 1 by omega, hlt])
            rwa [addr_add] at h
          have HV := hide (vAll_snoc B r k hlt)
          have HM := hide (vnum_snoc r k hlt)
          have hlk := hlr k hlt
          generalize hb : Ref.vAll B (r.take k) = b at *
          clear hb hws
          go_wp2_with fail
          refine (v_bs r[k] _ hlk).mono ?_
          rintro e wr ⟨rfl, rfl⟩
          have hbk := hbw.size
          cases b
          all_goals
            go_wp2_with (first | (at_builtin; refine wpList_append_own _ rfl _ _ 33 rfl w.heap.size 3 i0 (.int .i64 0) 1 8 Tryd.underlying33 hi hi0 hi1 hi2 rfl (by decide) _ _ _ rfl (hrow.alloc _) ⟨wr.heap.size, 0, none⟩ 1 1 [.int .i64 (Ref.vnum r[k])] rfl rfl (cell_one_new _ _ _) (fun x hx => by simp at hx; subst hx; rfl) (by unfold maxLen; omega) (by omega) (by simp; omega) ?_; intro v' w3 hown' hgrow3 hnil3; have z3 := hide (stay_grown (hrow.alloc _) hgrow3 (stay_alloc hxb'.out) (by decide)); obtain ⟨z0, z1, z2, z3', z4, z5, z6, z7⟩ := blk4 z3.out; obtain ⟨g3, cap3, hv3, -, -, -⟩ := row_open hown' (by omega); subst hv3))
            refine ⟨⟨k + 1, _, by omega, by go_num, congrArg Value.bool (by rw [HV.out]; simp), set_block z3.out, ?_, ?_, ?_, ?_⟩, ?_⟩
            · rw [HM.out, ints_snoc]; exact own_set hown' z3.out (by decide)
            · exact stay_set (stay_grown (hrow.alloc _) hgrow3 (stay_alloc hrb'.out) (by decide)) hz2
            · exact own_set (own_grown (hrow.alloc _) (hwr.alloc _) (by decide) hgrow3) z3.out (by decide)
            · exact below_set ((below_al hbw _).grown hgrow3 (by simp; omega) (fun j hj => (hrow.lt j hj).1)) (by omega) 3 _
            · simp [intOf]; omega
        · have hkr : Hid (r.take k = r) := List.take_of_length_le (by omega)
          have hke : Hid (k = r.length) := hide (by omega)
          obtain ⟨pa, ca, ha⟩ := own_slice hrow
          subst ha
          have hkn : ¬ ((3 + k : Nat) : Int) < (n : Int) := by have := HNR.out; omega
          go_wp2_with fail
          refine bodyPost_ret (v := .tuple #[.agg #[.int .i64 (Ref.vnum a0), .string (bs op), .int .i64 0, .slice pa k ca], .bool (Ref.vAll B (r.take k))]) (by simp [results, Tryd.results37, go_sem, y0, y1, y2, y3]) rfl ⟨.slice pa k ca, ?_, ?_, ?_⟩
          · rw [hkr.out, HN.out, HBB.out]; rfl
          · have hr2 := hrow
            rw [hkr.out] at hr2
            rw [← hke.out]
            exact own_set4 hr2 hrb'.out (by decide)
          · repeat' (first | exact hbw | apply Below.drew | apply below_set0 | apply below_al)

end Go.Proofs.YtedkjanogjglkaaDoor.D


namespace Go.Proofs.YtedkjanogjglkaaDoor.D
open Go.RowKit


set_option maxRecDepth 100000 in
set_option maxHeartbeats 2000000 in
theorem value_arg (s : ByteArray) (phis : Bool) (fb : Nat) (fargs : Int) (w : World) (hs : s.size ≤ 16777216) (hf : fb < w.heap.size) (hfc : w.cell? ⟨fb, 0, none⟩ = some (.int .i64 fargs)) (a0 a3 : List UInt8) (hws : Hid (Ref.words (bl s) = [a0, [61], Ref.sArg, a3])) (hl0 : a0.length ≤ 16777216) (hl3 : a3.length ≤ 16777216) (hV : 0 ≤ Ref.vnum a0) (hN : 0 ≤ Ref.number a3) :
    Calls Tryd.prog 37 #[.pointer (some ⟨fb, 0, none⟩), .string s, .bool phis] w fun e w' => ∃ a, e = .returned (.tuple #[.agg (valCells ⟨Ref.vnum a0, Ref.sArg, Ref.number a3, []⟩ a), .bool (decide (Ref.number a3 < fargs))]) ∧
      w'.ownsRow w.heap.size 3 1 a 0 [] ∧ Below w.heap.size w w' := by
  have e1 : ((bs [61]).toList == [61]) = true := toList_yes (bl_bs _)
  have e2 : ((bs Ref.sArg).toList == [99, 111, 110, 115, 116]) = false := toList_no (by rw [bl_bs]; decide)
  have e3 : ((bs Ref.sArg).toList == [97, 114, 103]) = true := toList_yes (bl_bs _)
  go_enter Tryd.func37, Tryd.ntmps37
  go_wp2_with fail
  refine (words_any s _ hs).mono ?_
  rintro e w1 ⟨v, rfl, hown, hbel⟩
  rw [hws.out] at hown
  obtain ⟨g, cap, rfl, hg1, hg2, hc⟩ := row_open hown (by simp)
  have c0 := hc 0 _ (strs_get [a0, [61], Ref.sArg, a3] 0 (by simp))
  have c1 := hc 1 _ (strs_get [a0, [61], Ref.sArg, a3] 1 (by simp))
  have c2 := hc 2 _ (strs_get [a0, [61], Ref.sArg, a3] 2 (by simp))
  have c3 := hc 3 _ (strs_get [a0, [61], Ref.sArg, a3] 3 (by simp))
  clear hc hown
  obtain ⟨r0, r1, r2, r3, r4, r5, r6, r7⟩ := blk4 (kept_new hbel)
  have hv := hide (fun W => v_bs a0 W hl0)
  have hz := hbel.size
  have hbe := below_of_new hbel
  have cf : w1.cell? ⟨fb, 0, none⟩ = some (.int .i64 fargs) := (hbe.cell (p := ⟨fb, 0, none⟩) hf).trans hfc
  simp only [World.size_alloc, List.getElem_cons_zero, List.getElem_cons_succ, List.length_cons, List.length_nil, Nat.zero_add, Nat.reduceAdd] at hz hg1 c0 c1 c2 c3 ⊢
  go_wp2_with fail
  have hz1 : w.heap.size < w1.heap.size := by omega
  have hz2 : ¬ w.heap.size = w1.heap.size := by omega
  have hz3 : ¬ fb = w1.heap.size := by omega
  have hz4 : fb < w1.heap.size := by omega
  have n0 := World.new_ne w1 ⟨g, 0, none⟩ c0
  go_region_held3 (fun w' => w'.cell? ⟨g, 0, none⟩ = some (.string (bs a0)) ∧ w'.cell? ⟨g, 2, none⟩ = some (.string (bs Ref.sArg))) (go_keep) (first | (go_at_call 47; refine (hv.out _).mono ?_; rintro e w' ⟨rfl, rfl⟩))
  all_goals
    go_wp2_with fail
    refine (number_bs a3 _ hl3).mono ?_
    rintro e w' ⟨rfl, rfl⟩
    go_wp2_with fail
    go_region
    all_goals
      go_wp2_with fail
      refine bodyPost_ret (v := .tuple #[.agg #[.int .i64 (Ref.vnum a0), .string (bs Ref.sArg), .int .i64 (Ref.number a3), .slice none 0 0], .bool (decide (Ref.number a3 < fargs))]) (by simp [results, Tryd.results37, go_sem, r0, r1, r2, r3, hz1]) rfl ⟨.slice none 0 0, rfl, World.ownsRow_nil _ _ _ _, ?_⟩
      repeat' (first | exact hbe | apply Below.drew | apply below_set0 | apply below_al)

set_option maxRecDepth 100000 in
set_option maxHeartbeats 2000000 in
theorem value_argN (s : ByteArray) (phis : Bool) (fb : Nat) (fargs : Int) (w : World) (hs : s.size ≤ 16777216) (hf : fb < w.heap.size) (hfc : w.cell? ⟨fb, 0, none⟩ = some (.int .i64 fargs)) (a0 a3 : List UInt8) (hws : Hid (Ref.words (bl s) = [a0, [61], Ref.sArg, a3])) (hl0 : a0.length ≤ 16777216) (hl3 : a3.length ≤ 16777216) (hV : 0 ≤ Ref.vnum a0) (hN : ¬ 0 ≤ Ref.number a3) :
    Calls Tryd.prog 37 #[.pointer (some ⟨fb, 0, none⟩), .string s, .bool phis] w fun e w' => ∃ a, e = .returned (.tuple #[.agg (valCells ⟨Ref.vnum a0, Ref.sArg, Ref.number a3, []⟩ a), .bool (false)]) ∧
      w'.ownsRow w.heap.size 3 1 a 0 [] ∧ Below w.heap.size w w' := by
  have hNd : decide (0 ≤ Ref.number a3) = false := decide_eq_false hN
  have e1 : ((bs [61]).toList == [61]) = true := toList_yes (bl_bs _)
  have e2 : ((bs Ref.sArg).toList == [99, 111, 110, 115, 116]) = false := toList_no (by rw [bl_bs]; decide)
  have e3 : ((bs Ref.sArg).toList == [97, 114, 103]) = true := toList_yes (bl_bs _)
  go_enter Tryd.func37, Tryd.ntmps37
  go_wp2_with fail
  refine (words_any s _ hs).mono ?_
  rintro e w1 ⟨v, rfl, hown, hbel⟩
  rw [hws.out] at hown
  obtain ⟨g, cap, rfl, hg1, hg2, hc⟩ := row_open hown (by simp)
  have c0 := hc 0 _ (strs_get [a0, [61], Ref.sArg, a3] 0 (by simp))
  have c1 := hc 1 _ (strs_get [a0, [61], Ref.sArg, a3] 1 (by simp))
  have c2 := hc 2 _ (strs_get [a0, [61], Ref.sArg, a3] 2 (by simp))
  have c3 := hc 3 _ (strs_get [a0, [61], Ref.sArg, a3] 3 (by simp))
  clear hc hown
  obtain ⟨r0, r1, r2, r3, r4, r5, r6, r7⟩ := blk4 (kept_new hbel)
  have hv := hide (fun W => v_bs a0 W hl0)
  have hz := hbel.size
  have hbe := below_of_new hbel
  have cf : w1.cell? ⟨fb, 0, none⟩ = some (.int .i64 fargs) := (hbe.cell (p := ⟨fb, 0, none⟩) hf).trans hfc
  simp only [World.size_alloc, List.getElem_cons_zero, List.getElem_cons_succ, List.length_cons, List.length_nil, Nat.zero_add, Nat.reduceAdd] at hz hg1 c0 c1 c2 c3 ⊢
  go_wp2_with fail
  have hz1 : w.heap.size < w1.heap.size := by omega
  have hz2 : ¬ w.heap.size = w1.heap.size := by omega
  have hz3 : ¬ fb = w1.heap.size := by omega
  have hz4 : fb < w1.heap.size := by omega
  have n0 := World.new_ne w1 ⟨g, 0, none⟩ c0
  go_region_held3 (fun w' => w'.cell? ⟨g, 0, none⟩ = some (.string (bs a0)) ∧ w'.cell? ⟨g, 2, none⟩ = some (.string (bs Ref.sArg))) (go_keep) (first | (go_at_call 47; refine (hv.out _).mono ?_; rintro e w' ⟨rfl, rfl⟩))
  all_goals
    go_wp2_with fail
    refine (number_bs a3 _ hl3).mono ?_
    rintro e w' ⟨rfl, rfl⟩
    go_wp2_with fail
    go_region
    all_goals
      go_wp2_with fail
      refine bodyPost_ret (v := .tuple #[.agg #[.int .i64 (Ref.vnum a0), .string (bs Ref.sArg), .int .i64 (Ref.number a3), .slice none 0 0], .bool false]) (by simp [results, Tryd.results37, go_sem, r0, r1, r2, r3, hz1]) rfl ⟨.slice none 0 0, rfl, World.ownsRow_nil _ _ _ _, ?_⟩
      repeat' (first | exact hbe | apply Below.drew | apply below_set0 | apply below_al)

set_option maxRecDepth 100000 in
set_option maxHeartbeats 2000000 in
theorem value_argV (s : ByteArray) (phis : Bool) (fb : Nat) (fargs : Int) (w : World) (hs : s.size ≤ 16777216) (hf : fb < w.heap.size) (hfc : w.cell? ⟨fb, 0, none⟩ = some (.int .i64 fargs)) (a0 a3 : List UInt8) (hws : Hid (Ref.words (bl s) = [a0, [61], Ref.sArg, a3])) (hl0 : a0.length ≤ 16777216) (hl3 : a3.length ≤ 16777216) (hV : ¬ 0 ≤ Ref.vnum a0) :
    Calls Tryd.prog 37 #[.pointer (some ⟨fb, 0, none⟩), .string s, .bool phis] w fun e w' => ∃ a, e = .returned (.tuple #[.agg (valCells ⟨Ref.vnum a0, Ref.sArg, Ref.number a3, []⟩ a), .bool (false)]) ∧
      w'.ownsRow w.heap.size 3 1 a 0 [] ∧ Below w.heap.size w w' := by
  have hVd : decide (0 ≤ Ref.vnum a0) = false := decide_eq_false hV
  have e1 : ((bs [61]).toList == [61]) = true := toList_yes (bl_bs _)
  have e2 : ((bs Ref.sArg).toList == [99, 111, 110, 115, 116]) = false := toList_no (by rw [bl_bs]; decide)
  have e3 : ((bs Ref.sArg).toList == [97, 114, 103]) = true := toList_yes (bl_bs _)
  go_enter Tryd.func37, Tryd.ntmps37
  go_wp2_with fail
  refine (words_any s _ hs).mono ?_
  rintro e w1 ⟨v, rfl, hown, hbel⟩
  rw [hws.out] at hown
  obtain ⟨g, cap, rfl, hg1, hg2, hc⟩ := row_open hown (by simp)
  have c0 := hc 0 _ (strs_get [a0, [61], Ref.sArg, a3] 0 (by simp))
  have c1 := hc 1 _ (strs_get [a0, [61], Ref.sArg, a3] 1 (by simp))
  have c2 := hc 2 _ (strs_get [a0, [61], Ref.sArg, a3] 2 (by simp))
  have c3 := hc 3 _ (strs_get [a0, [61], Ref.sArg, a3] 3 (by simp))
  clear hc hown
  obtain ⟨r0, r1, r2, r3, r4, r5, r6, r7⟩ := blk4 (kept_new hbel)
  have hv := hide (fun W => v_bs a0 W hl0)
  have hz := hbel.size
  have hbe := below_of_new hbel
  have cf : w1.cell? ⟨fb, 0, none⟩ = some (.int .i64 fargs) := (hbe.cell (p := ⟨fb, 0, none⟩) hf).trans hfc
  simp only [World.size_alloc, List.getElem_cons_zero, List.getElem_cons_succ, List.length_cons, List.length_nil, Nat.zero_add, Nat.reduceAdd] at hz hg1 c0 c1 c2 c3 ⊢
  go_wp2_with fail
  have hz1 : w.heap.size < w1.heap.size := by omega
  have hz2 : ¬ w.heap.size = w1.heap.size := by omega
  have hz3 : ¬ fb = w1.heap.size := by omega
  have hz4 : fb < w1.heap.size := by omega
  have n0 := World.new_ne w1 ⟨g, 0, none⟩ c0
  go_region_held3 (fun w' => w'.cell? ⟨g, 0, none⟩ = some (.string (bs a0)) ∧ w'.cell? ⟨g, 2, none⟩ = some (.string (bs Ref.sArg))) (go_keep) (first | (go_at_call 47; refine (hv.out _).mono ?_; rintro e w' ⟨rfl, rfl⟩))
  all_goals
    go_wp2_with fail
    refine (number_bs a3 _ hl3).mono ?_
    rintro e w' ⟨rfl, rfl⟩
    go_wp2_with fail
    go_region
    all_goals
      go_wp2_with fail
      refine bodyPost_ret (v := .tuple #[.agg #[.int .i64 (Ref.vnum a0), .string (bs Ref.sArg), .int .i64 (Ref.number a3), .slice none 0 0], .bool false]) (by simp [results, Tryd.results37, go_sem, r0, r1, r2, r3, hz1]) rfl ⟨.slice none 0 0, rfl, World.ownsRow_nil _ _ _ _, ?_⟩
      repeat' (first | exact hbe | apply Below.drew | apply below_set0 | apply below_al)

end Go.Proofs.YtedkjanogjglkaaDoor.D
