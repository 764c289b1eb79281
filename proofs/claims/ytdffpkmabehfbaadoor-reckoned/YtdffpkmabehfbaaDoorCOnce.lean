/-
  Walks: code.Function.requireMadeOnce, requireTargets, where they hold.
-/
import Derived.Test.YtdffpkmabehfbaaDoorCEdges
namespace Go.Proofs.YtdffpkmabehfbaaDoor
open Go.RowKit

namespace Code
/-- The v numbers of a block's values. -/
def nums (l : List Val) : List Nat := l.map (·.num)

/-- None of these is in; and none comes twice. -/
def Fresh (R : List Bool) (l : List Val) : Prop := (nums l).Nodup ∧ ∀ x ∈ nums l, R.getD x false = false

/-- No v number is made twice, given what has been made. -/
def Once : List Bool → List Blk → Prop
  | _, [] => True
  | R, b :: r => Fresh R b.values ∧ Once (addAll R b.values) r

theorem set_getD (R : List Bool) (n x : Nat) (hx : x ≠ n) : (R.set n true).getD x false = R.getD x false := by
  rw [List.getD_eq_getElem?_getD, List.getD_eq_getElem?_getD, List.getElem?_set_ne (by omega)]

theorem Fresh.head {R : List Bool} {v : Val} {l : List Val} (h : Fresh R (v :: l)) : R.getD v.num false = false ∧ Fresh (R.set v.num true) l := by
  obtain ⟨h1, h2⟩ := h
  simp only [nums, List.map_cons, List.nodup_cons] at h1
  refine ⟨h2 v.num (by simp [nums]), h1.2, fun x hx => ?_⟩
  rw [set_getD R v.num x (fun e => h1.1 (by subst e; exact hx))]
  exact h2 x (by simp only [nums, List.map_cons]; exact List.mem_cons_of_mem _ hx)
end Code

set_option maxRecDepth 100000 in
set_option maxHeartbeats 4000000 in
theorem madeOnce_ok (args : Nat) (bks : List Code.Blk) (p : Option Addr) (c : Nat) (base : Nat) (w : World) (hf : RepBlks w base (.slice p bks.length c) bks) (hn : bks.length ≤ 8) (hl : ∀ b ∈ bks, b.values.length ≤ 100000 ∧ ∀ v ∈ b.values, v.num < 60) (ho : Code.Once noNumber bks) :
    Calls Tryd.prog 32 #[.agg #[.int .i64 (args : Nat), .slice p bks.length c]] w fun e w' => e = .returned (.tuple #[]) ∧ Below w.heap.size w w' := by
  obtain ⟨p', c', hpe, hblk⟩ := hf.open
  simp only [Value.slice.injEq] at hpe
  obtain ⟨rfl, _, rfl⟩ := hpe
  have HBLK := hide hblk
  have HL := hide hl
  have HO := hide ho
  clear hblk hf hl ho
  go_enter Tryd.func32, Tryd.ntmps32
  go_wp2
  generalize hw0 : (w.alloc _).alloc _ = w0
  have hr0 : setRow w0 (w.heap.size + 1) noNumber := by
    have h := heap_alloc_new (w.alloc (.cells #[.int .i64 (args : Nat), .slice p bks.length c] 43)) (.cells (setA noNumber) 108)
    rw [alloc_size] at h
    rw [← hw0]; exact h
  have hb0 : Below w.heap.size w w0 := by rw [← hw0]; exact below_al (below_al (Below.refl _ _) _) _
  clear hw0
  go_loopw [10] (fun i wr => ∃ (j : Nat) (R : List Bool), j ≤ bks.length ∧ i = .int .i64 j ∧ R.length = 60 ∧ setRow wr (w.heap.size + 1) R ∧ Below w.heap.size w wr ∧ Hid (Code.Once R (bks.drop j))) (fun i _ => bks.length - (intOf i).toNat)
  case atStart => exact ⟨0, noNumber, by omega, rfl, rfl, hr0, hb0, HO⟩
  case round =>
    obtain ⟨j, R, hj, rfl, hR, hrow, hbw, hsp⟩ := hrel
    clear hr0 hb0 HO
    have hz := hbw.size
    by_cases hlt : j < bks.length
    · obtain ⟨g, vs, rfl, hg, c0, c1, hvs⟩ := HBLK.out j hlt
      obtain ⟨hlen, hnum⟩ := HL.out bks[j] (List.getElem_mem hlt)
      have hO : Code.Fresh R bks[j].values ∧ Code.Once (Code.addAll R bks[j].values) (bks.drop (j + 1)) := by
        have h := hsp.out
        rw [List.drop_eq_getElem_cons hlt] at h
        exact h
      obtain ⟨pv, cv, rfl, hval⟩ := hvs.open
      have c0' : wr.cell? ⟨g, j * 2, none⟩ = some (.slice pv bks[j].values.length cv) := by rw [(bcell hbw).1 g _ hg]; exact c0
      obtain ⟨T, zv, hzv⟩ := lastV_shape bks[j].last
      have c1' : wr.cell? ⟨g, j * 2 + 1, none⟩ = some (.iface T zv) := by rw [(bcell hbw).1 g _ hg, ← hzv]; exact c1
      generalize bks[j].values = vals at *
      have HV := hide hval
      have HFR := hide hO.1
      have HON := hide hO.2
      have HNUM := hide hnum
      clear hval c0 c1 hvs hzv hsp hO hnum
      go_wp2_with fail
      generalize hw3 : wr.alloc _ = w3
      have hb3 : Below w.heap.size w w3 := by rw [← hw3]; exact below_al hbw _
      have hrow3 : setRow w3 (w.heap.size + 1) R := by rw [← hw3]; exact stay_alloc hrow
      clear hw3 c0' c1'
      rename World => wo
      go_loopw [18] (fun i ws => ∃ (k : Nat) (S : List Bool), k ≤ vals.length ∧ i = .int .i64 k ∧ S.length = 60 ∧ setRow ws (w.heap.size + 1) S ∧ Below w.heap.size w ws ∧ Hid (Code.Fresh S (vals.drop k) ∧ Code.addAll S (vals.drop k) = Code.addAll R vals)) (fun i _ => vals.length - (intOf i).toNat)
      case atStart => exact ⟨0, R, by omega, rfl, hR, hrow3, hb3, hide ⟨HFR.out, rfl⟩⟩
      case round =>
        obtain ⟨k, S, hk, rfl, hS, hrw, hbs, hsp⟩ := hrel
        clear hrow3 hb3 hrow HFR
        have hzs := hbs.size
        by_cases hkt : k < vals.length
        · obtain ⟨g2, th, rfl, hg2, d0, d1, hth⟩ := HV.out k hkt
          obtain ⟨T', tv, rfl⟩ := hth.shape
          have d0' : wr.cell? ⟨g2, k * 2, none⟩ = some (.int .i64 (vals[k].num : Nat)) := by rw [(bcell hbs).1 g2 _ hg2]; exact d0
          have d1' : wr.cell? ⟨g2, k * 2 + 1, none⟩ = some (.iface T' tv) := by rw [(bcell hbs).1 g2 _ hg2]; exact d1
          have hx60 := HNUM.out vals[k] (List.getElem_mem hkt)
          have hF := hsp.out.1
          have hA := hsp.out.2
          rw [List.drop_eq_getElem_cons hkt] at hF hA
          have hh := hF.head
          have HN : Hid (Code.Fresh (S.set vals[k].num true) (vals.drop (k + 1)) ∧ Code.addAll (S.set vals[k].num true) (vals.drop (k + 1)) = Code.addAll R vals) := hide ⟨hh.2, hA⟩
          have hfalse := hh.1
          clear hF hA hh hth d0 d1 hsp
          generalize vals[k].num = x at *
          have hcx : wr.cell? ⟨w.heap.size + 1, x, none⟩ = some (.bool false) := by
            rw [hrw.cell x (by omega)]
            rw [List.getD_eq_getElem?_getD, List.getElem?_eq_getElem (by omega)] at hfalse
            simp only [Option.getD_some] at hfalse
            rw [hfalse]
          have hfx := blk_froz hrw x
          have hx' : (x : Int) < 60 := by omega
          have hl1 := lt_of_block hrw
          clear hfalse
          go_wp2
          exact ⟨⟨k + 1, S.set x true, by omega, by go_num, by simp [hS], stay_alloc (hrw.set x true), below_al (below_set hbs (by omega) _ _) _, HN⟩, by simp [intOf]; omega⟩
        · have HA : Hid (S = Code.addAll R vals) := by
            have h := hsp.out.2
            rw [List.drop_of_length_le (by omega)] at h
            exact h
          clear hsp
          go_wp2
          refine ⟨⟨j + 1, S, by omega, by go_num, hS, hrw, hbs, ?_⟩, by simp [intOf]; omega⟩
          rw [HA.out]; exact HON
    · go_wp2
      go_end0
      exact ⟨rfl, hbw⟩

set_option maxRecDepth 100000 in
set_option maxHeartbeats 4000000 in
theorem targets_ok (args : Nat) (bks : List Code.Blk) (p : Option Addr) (c : Nat) (base : Nat) (w : World) (hf : RepBlks w base (.slice p bks.length c) bks) (hn : bks.length ≤ 8) (ht : ∀ b ∈ bks, ∀ t ∈ Code.tg b.last, 1 ≤ t ∧ t < bks.length) :
    Calls Tryd.prog 33 #[.agg #[.int .i64 (args : Nat), .slice p bks.length c]] w fun e w' => e = .returned (.tuple #[]) ∧ Below w.heap.size w w' := by
  obtain ⟨p', c', hpe, hblk⟩ := hf.open
  simp only [Value.slice.injEq] at hpe
  obtain ⟨rfl, _, rfl⟩ := hpe
  have HBLK := hide hblk
  have HTG := hide ht
  clear hblk hf ht
  go_enter Tryd.func33, Tryd.ntmps33
  go_wp2
  generalize hw0 : w.alloc _ = w0
  have hx0 : w0.heap[w.heap.size]? = some (.cells #[.int .i64 (args : Nat), .slice p bks.length c] 43) := by rw [← hw0]; exact heap_alloc_new w _
  have hb0 : Below w.heap.size w w0 := by rw [← hw0]; exact below_al (Below.refl _ _) _
  clear hw0
  go_loopw [9] (fun i wr => ∃ j : Nat, j ≤ bks.length ∧ i = .int .i64 j ∧ wr.heap[w.heap.size]? = some (.cells #[.int .i64 (args : Nat), .slice p bks.length c] 43) ∧ Below w.heap.size w wr) (fun i _ => bks.length - (intOf i).toNat)
  case atStart => exact ⟨0, by omega, rfl, hx0, hb0⟩
  case round =>
    obtain ⟨j, hj, rfl, hx, hbw⟩ := hrel
    clear hx0 hb0
    have hz := hbw.size
    have hzx := lt_of_block hx
    by_cases hlt : j < bks.length
    · obtain ⟨g, vs, rfl, hg, c0, c1, hvs⟩ := HBLK.out j hlt
      obtain ⟨pv, cv, rfl, hval⟩ := hvs.open
      clear hval
      have c0' : wr.cell? ⟨g, j * 2, none⟩ = some (.slice pv bks[j].values.length cv) := by rw [(bcell hbw).1 g _ hg]; exact c0
      have c1' : wr.cell? ⟨g, j * 2 + 1, none⟩ = some (lastV bks[j].last) := by rw [(bcell hbw).1 g _ hg]; exact c1
      have HTA := hide (targets_any bks[j].last)
      have htb := HTG.out bks[j] (List.getElem_mem hlt)
      have htl := Code.tg_length bks[j].last
      generalize Code.tg bks[j].last = tl at *
      obtain ⟨T, zv, hzv⟩ := lastV_shape bks[j].last
      rw [hzv] at c1' HTA
      clear c0 c1 hvs hzv
      generalize bks[j].values.length = vl at *
      go_wp2_with fail
      generalize hw3 : wr.alloc _ = w3
      have hb3 : Below w.heap.size w w3 := by rw [← hw3]; exact below_al hbw _
      have hx3 : w3.heap[w.heap.size]? = some (.cells #[.int .i64 (args : Nat), .slice (some ⟨g, 0, none⟩) bks.length c] 43) := by rw [← hw3]; exact stay_alloc hx
      clear hw3 c0' c1'
      refine (HTA.out w3).mono ?_
      rintro e w4 ⟨v4, rfl, hown4, hb4⟩
      have hx4 := (hb4.block _ (lt_of_block hx3)).trans hx3
      have hbw4 : Below w.heap.size w w4 := hb3.trans (hb4.mono hb3.size)
      clear hb3 hb4 hx3
      obtain ⟨p4, c4, rfl, hval4⟩ := nats_open hown4
      have HV4 := hide hval4
      have hcx := blk_cell hx4 1 _ rfl
      clear hval4 hown4
      go_wp2_with fail
      go_loop [18] (fun i => ∃ k : Nat, k ≤ tl.length ∧ i = .int .i64 k) (fun i => tl.length - (intOf i).toNat)
      case atStart => exact ⟨0, by omega, rfl⟩
      case round =>
        obtain ⟨k, hk, rfl⟩ := hrel
        by_cases hkt : k < tl.length
        · obtain ⟨g4, rfl, ct⟩ := HV4.out k hkt
          obtain ⟨t1, t2⟩ := htb tl[k] (List.getElem_mem hkt)
          have t1' : ¬ (tl[k] : Int) < 1 := by omega
          have t2' : (tl[k] : Int) < (bks.length : Int) := by omega
          clear HV4
          go_wp2
          exact ⟨⟨k + 1, by omega, by go_num⟩, by simp [intOf]; omega⟩
        · go_wp2
          exact ⟨⟨j + 1, by omega, by go_num, hx4, hbw4⟩, by simp [intOf]; omega⟩
    · go_wp2
      go_end0
      exact ⟨rfl, hbw⟩
end Go.Proofs.YtdffpkmabehfbaaDoor
