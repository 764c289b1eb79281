/-
  Parts of the proof: RNode, ROperR, RRes, RRes2, RHeavy.
-/
import Derived.Test.YtedkjanogjglkaaGreatDoorP10
set_option maxRecDepth 100000
set_option maxHeartbeats 4000000
namespace Go.Proofs.YtedkjanogjglkaaGreatDoor
open Go.RowKit
open Go.Proofs.YtedkjanogjglkaaGreatDoor.Code (RTree Nm RSt Prs)
def NodePost (o : Option (RTree × RSt × List UInt8)) (w : World) (rb B : Nat) (l : Int) (e : Ending) (w' : World) : Prop :=
 (∃ t st r v, o = some (t, st, r) /\ e = .returned v /\ (∃ a b, v = .agg #[a, b]) /\ Rdr w' rb B r l st /\ RepT w' w.heap.size false (LP st) (.iface 119 v) t /\ Kin w w' rb B) \/ (o = none /\ FailsK w rb B l 6 e w')
theorem bindS_names {st st' : RSt} {p : Nm} (h : Code.bindS st p = some st') : (∃ m, st'.names = st.names ++ m) /\ st'.names.length <= st.names.length + 1 := by
 unfold Code.bindS at h
 split at h
 ·split at h
  ·simp only [Option.some.injEq] at h
   subst h
   exact ⟨⟨[], by simp⟩, by omega⟩
  ·cases h
 ·simp only [Option.some.injEq] at h
  subst h
  exact ⟨⟨[p], rfl⟩, by simp⟩
theorem LP.mono {st st' : RSt} {m : List Nm} (h : st'.names = st.names ++ m) {i : Int} {p : Nm} (hp : LP st i p) : LP st' i p := by
 obtain ⟨k, h1, h2⟩ := hp
 have hk : k < st.names.length := by
  rcases Nat.lt_or_ge k st.names.length with h | h
  ·exact h
  ·rw [List.getElem?_eq_none h] at h2; cases h2
 exact ⟨k, h1, by rw [h, List.getElem?_append_left hk]; exact h2⟩
def Tame (f : Prs) : Prop := ∀ st s t st' r, f st s = some (t, st', r) -> (∃ m, st'.names = st.names ++ m) /\ st'.names.length + r.length <= st.names.length + s.length /\ r.length <= s.length
theorem nameP_length {s : List UInt8} {p : List UInt8 × List UInt8} (h : Code.nameP s = some p) : p.2.length + 1 <= s.length := by
 unfold Code.nameP at h
 split at h
 ·cases h
 ·rename_i hn
  simp only [Option.some.injEq] at h
  subst h
  have e : Code.word s ++ Code.behind s = s := Code.run_rest 97 122 s
  have h1 : Code.word s ≠ [] := fun h => hn (Or.inl h)
  have h2 := List.length_pos_iff.2 h1
  have := congrArg List.length e
  simp at this
  show (Code.behind s).length + 1 <= _
  omega
theorem atomP_length {s : List UInt8} {t : RTree} {r : List UInt8} (h : Code.atomP s = some (t, r)) : r.length + 1 <= s.length := by
 unfold Code.atomP at h
 split at h
 ·rename_i r' hc
  simp only [Option.map_eq_some_iff, Prod.mk.injEq] at h
  obtain ⟨p, hp, _, rfl⟩ := h
  have := nameP_length hp
  have := Code.cut_length hc
  omega
 ·split at h
  ·simp only [Option.map_eq_some_iff, Prod.mk.injEq] at h
   obtain ⟨p, hp, _, rfl⟩ := h
   have := (Code.signed_length (show Code.signed s = some (p.1, p.2) from hp)).1
   omega
  ·simp only [Option.map_eq_some_iff, Prod.mk.injEq] at h
   obtain ⟨p, hp, _, rfl⟩ := h
   exact nameP_length hp
theorem atomS_tame {slot : RSt -> Nm -> Option RSt} (h : ∀ st p st', slot st p = some st' -> (∃ m, st'.names = st.names ++ m) /\ st'.names.length <= st.names.length + 1) : Tame (Code.atomS slot) := by
 intro st s t st' r hh
 simp only [Code.atomS, Option.bind_eq_some_iff, Option.map_eq_some_iff, Prod.mk.injEq] at hh
 obtain ⟨p, hp, st1, hl, rfl, rfl, rfl⟩ := hh
 have hlen := atomP_length (show Code.atomP s = some (p.1, p.2) from hp)
 unfold RTree.leaf at hl
 split at hl
 ·obtain ⟨h1, h2⟩ := h _ _ _ hl
  exact ⟨h1, by omega, by omega⟩
 ·obtain ⟨h1, h2⟩ := h _ _ _ hl
  exact ⟨h1, by omega, by omega⟩
 ·simp only [Option.some.injEq] at hl
  subst hl
  exact ⟨⟨[], by simp⟩, by omega, by omega⟩
theorem kidsS_tame {f : Prs} (hf : Tame f) : ∀ (n : Nat) (st : RSt) (s : List UInt8) (l : List RTree) (st' : RSt) (r : List UInt8), Code.kidsS f n st s = some (l, st', r) -> (∃ m, st'.names = st.names ++ m) /\ st'.names.length + r.length <= st.names.length + s.length /\ r.length <= s.length
 | 0, st, s, l, st', r, h => by
  simp only [Code.kidsS, Option.some.injEq, Prod.mk.injEq] at h
  obtain ⟨_, rfl, rfl⟩ := h
  exact ⟨⟨[], by simp⟩, Nat.le_refl _, Nat.le_refl _⟩
 | n + 1, st, s, l, st', r, h => by
  simp only [Code.kidsS, Option.bind_eq_some_iff, Option.map_eq_some_iff, Prod.mk.injEq] at h
  obtain ⟨a, ha, p, hp, q, hq, _, hq2⟩ := h
  have h1 := Code.cut_length ha
  obtain ⟨⟨m1, h2⟩, h3, h4⟩ := hf st a p.1 p.2.1 p.2.2 hp
  obtain ⟨⟨m2, h5⟩, h6, h7⟩ := kidsS_tame hf n p.2.1 p.2.2 q.1 q.2.1 q.2.2 hq
  have e1 : q.2.1 = st' := congrArg Prod.fst hq2
  have e2 : q.2.2 = r := congrArg Prod.snd hq2
  rw [e1] at h5 h6
  rw [e2] at h6 h7
  exact ⟨⟨m1 ++ m2, by rw [h5, h2, List.append_assoc]⟩, by omega, by omega⟩
theorem operS_tame {f : Prs} (hf : Tame f) (mk : Nat -> List RTree -> RTree) : Tame (Code.operS f mk) := by
 intro st s t st' r h
 simp only [Code.operS, Option.bind_eq_some_iff, Option.map_eq_some_iff, Prod.mk.injEq] at h
 obtain ⟨a, ha, k, _, p, hp, v, hv, _, rfl, rfl⟩ := h
 have h1 := Code.cut_length ha
 have h2 := Code.cut_length hv
 have h3 : (Code.behind a).length <= a.length := Code.rest_length 97 122 a
 obtain ⟨h4, h5, h6⟩ := kidsS_tame hf _ _ _ p.1 p.2.1 p.2.2 hp
 exact ⟨h4, by omega, by omega⟩
theorem partS_tame : ∀ d, Tame (Code.partS d)
 | 0 => fun st s t st' r h => by
  simp only [Code.partS] at h
  split at h
  ·cases h
  ·exact atomS_tame (fun _ _ _ h => bindS_names h) st s t st' r h
 | d + 1 => fun st s t st' r h => by
  simp only [Code.partS] at h
  split at h
  ·exact operS_tame (partS_tame d) _ st s t st' r h
  ·exact atomS_tame (fun _ _ _ h => bindS_names h) st s t st' r h
theorem node_of (d : Int) (hd1 : 1 <= d) (hd4 : d <= 4) (f : Prs) (hf : Tame f) (hK : Reads 147 (d + 1) f false LP)
  (rb B : Nat) (s : List UInt8) (l : Int) (st : RSt) (w : World) (hr : Rdr w rb B s l st) (hs : s.length <= 3000) (hsn : st.names.length + s.length <= 6000) (ht : Tab w) (hrb : 0 < rb) (hB : 0 < B) (hBw : B <= w.heap.size) :
  Calls Tryz.prog 100 #[.pointer (some ⟨rb, 0, none⟩), .int .i64 d] w fun e w' => NodePost (Code.operS f .op st s) w rb B l e w' := by
 have hmf : ∀ (fn : Fn) (first cap : Array Value) (w : World), (Instr.makeFunc fn first cap).run Tryz.prog w = .ok (.func fn first cap) w := fun _ _ _ _ => rfl
 have HO := hide (operPart_any 147 (fun _ _ => by first | exact Tryz.call147 _ _) d hd1 hd4 f LP hK (fun st s t st' r h i p hp => by
  obtain ⟨m, hm⟩ := (hf st s t st' r h).1
  exact LP.mono hm hp) (fun st s t st' r h => (hf st s t st' r h).2))
 have HEQ := hide (operS_eq f .op st s)
 have HT := hide ht
 have hrlt : rb < w.heap.size := by
  obtain ⟨X, hX⟩ := hr.rd
  exact lt_of_block hX
 clear hK hf ht
 go_enter Tryz.func100, Tryz.ntmps100
 go_wp2_with fail
 generalize hw0 : w.alloc _ = w0
 have hb0 : Below w.heap.size w w0 := by rw [<- hw0]; exact below_al (Below.refl _ _) _
 have hn0 : w0.heap[w.heap.size]? = some (.cells #[.int .i64 0, .slice none 0 0] 119) := by rw [<- hw0]; exact heap_alloc_new w _
 have hz0 : w0.heap.size = w.heap.size + 1 := by rw [<- hw0]; simp
 clear hw0
 have hk0 : Kin w w0 rb B := Kin.below hb0
 have hr0 := hr.below hb0
 refine (HO.out rb B s l st w0 hr0 hs hsn (hk0.tab hrb hB HT.out) hrb hB (by omega)).mono ?_
 rintro e w1 (⟨k, ts, st1, r1, sv, vs, hc, hk13, rfl, hr1, hvl, hown, hts, hk1⟩ | ⟨hc, rfl, hk1⟩)
 ·obtain ⟨sp, sc, rfl⟩ := own_slice hown
  have hn1 : w1.heap[w.heap.size]? = some (.cells #[.int .i64 0, .slice none 0 0] 119) := hk1.block _ _ hn0 (by omega) (Or.inr (by intro C z h; simp only [Obj.cells.injEq] at h; exact absurd h.2.1 (by decide)))
  have hc0 := blk_cell hn1 0 _ rfl
  have hc1 := blk_cell hn1 1 _ rfl
  have hf0 := blk_froz hn1 0
  have hf1 := blk_froz hn1 1
  have HC : Hid (Code.operS f .op st s = some (.op k ts, st1, r1)) := by rw [HEQ.out, hc]; exact rfl
  have HH := hide hown
  have HTS := hide hts
  have HVL := hide hvl
  clear hc hown hts hvl
  go_wp2
  refine bodyPost_ret (v := .agg #[.int .i64 (k : Nat), .slice sp vs.length sc]) (by simp [results, Tryz.results100, go_sem, hc0, hc1]) rfl ?_
  have hset : KeepsT w1 ((w1.setCell ⟨w.heap.size, 0, none⟩ (.int .i64 (k : Nat))).setCell ⟨w.heap.size, 1, none⟩ (.slice sp vs.length sc)) (w.heap.size + 1) := fun b C T z h1 h2 h3 => stay_set (stay_set h1 (show b ≠ w.heap.size by omega)) (show b ≠ w.heap.size by omega)
  have hn2 := set_block (o := 0) (v := .int .i64 (k : Nat)) hn1
  refine Or.inl ⟨.op k ts, st1, r1, _, HC.out, rfl, ⟨_, _, rfl⟩, (hr1.set hn1 (by decide) (by decide)).set hn2 (by decide) (by decide), ⟨_, vs, rfl, hk13, HVL.out, ?_, ?_⟩, ((hk0.trans hk1).set_new (Nat.le_refl _) _ _).set_new (Nat.le_refl _) _ _⟩
  ·have h1 : w1.ownsRow (w.heap.size + 1) 262 1 (.slice sp vs.length sc) vs.length vs := own_base HH.out (by omega)
   exact own_base (hset.own (Or.inl rfl) h1) (by omega)
  ·exact RepTs.kept hset (by omega) (fun _ _ h => h) ts vs (RepTs.kept (keeps_refl _ _) (by omega) (fun _ _ h => h) ts vs HTS.out)
 ·go_wp2
  exact ⟨rfl, Or.inr ⟨by rw [HEQ.out, hc]; rfl, rfl, hk0.trans hk1⟩⟩
theorem node_deep (rb B : Nat) (s : List UInt8) (l : Int) (st : RSt) (w : World) (hr : Rdr w rb B s l st) (hs : s.length <= 3000) (ht : Tab w) (hrb : 0 < rb) (hB : 0 < B) :
  Calls Tryz.prog 100 #[.pointer (some ⟨rb, 0, none⟩), .int .i64 5] w fun e w' => FailsK w rb B l 6 e w' := by
 have hmf : ∀ (fn : Fn) (first cap : Array Value) (w : World), (Instr.makeFunc fn first cap).run Tryz.prog w = .ok (.func fn first cap) w := fun _ _ _ _ => rfl
 have HT := hide ht
 have hrlt : rb < w.heap.size := by
  obtain ⟨X, hX⟩ := hr.rd
  exact lt_of_block hX
 clear ht
 go_enter Tryz.func100, Tryz.ntmps100
 go_wp2_with fail
 generalize hw0 : w.alloc _ = w0
 have hb0 : Below w.heap.size w w0 := by rw [<- hw0]; exact below_al (Below.refl _ _) _
 clear hw0
 have hk0 : Kin w w0 rb B := Kin.below hb0
 refine (operPart_deep _ rb B s l st w0 (hr.below hb0) hs (hk0.tab hrb hB HT.out) hrb hB).mono ?_
 rintro e w1 ⟨rfl, hk1⟩
 go_wp2
 exact ⟨rfl, rfl, hk0.trans hk1⟩
theorem Rdr.c0 {w : World} {rb B : Nat} {s : List UInt8} {l : Int} {st : RSt} (h : Rdr w rb B s l st) : w.cell? ⟨rb, 0, none⟩ = some (.string (bs s)) := by
 obtain ⟨nv, h1, _⟩ := h
 exact h1.c0
theorem part_of (d : Int) (g : Prs) (_h1 : 1 <= d) (_h5 : d <= 5)
  (hN : ∀ (rb B : Nat) (s : List UInt8) (l : Int) (st : RSt) (w : World), Rdr w rb B s l st -> s.length <= 3000 -> st.names.length + s.length <= 6000 -> Tab w -> 0 < rb -> 0 < B -> B <= w.heap.size -> (Code.cut [40] s).isSome = true ->
    Calls Tryz.prog 100 #[.pointer (some ⟨rb, 0, none⟩), .int .i64 d] w fun e w' => NodePost (g st s) w rb B l e w')
  (hg : ∀ st s, (Code.cut [40] s).isSome = false -> g st s = Code.atomS Code.bindS st s) : Reads 147 d g false LP := by
 intro rb B s l st w hr hs hsn ht hrb hB hBw
 have hmf : ∀ (fn : Fn) (first cap : Array Value) (w : World), (Instr.makeFunc fn first cap).run Tryz.prog w = .ok (.func fn first cap) w := fun _ _ _ _ => rfl
 have c0 := hr.c0
 have HN := hide (hN rb B s l st w hr hs hsn ht hrb hB hBw)
 have HG := hide (hg st s)
 have HA := hide (atom_any 189 (fun _ _ => Tryz.call189 _ _) Code.bindS LP bind_slots false rb B s l st w hr hs hsn ht hrb hB hBw)
 clear hN hg
 cases hc : (Code.cut [40] s).isSome with
 | true =>
  have hn := HN.out hc
  have HC := hide hc
  have HNN := hide hn
  clear hc hn HN HG HA
  go_enter Tryz.func147, Tryz.ntmps147
  go_wp2_with fail
  refine (hasPrefix2_any s [40] w hs (by simp)).mono ?_
  rw [HC.out]
  rintro e w1 ⟨rfl, rfl⟩
  go_wp2_with fail
  refine (HNN.out).mono ?_
  rintro e w2 (⟨t, st2, r2, v2, hcc, rfl, ⟨va, vb, rfl⟩, hr2, hrep, hk2⟩ | ⟨hcc, rfl, hk2⟩)
  ·have HCC := hide hcc
   have HREP := hide hrep
   clear hcc hrep
   go_wp2
   go_ret
   exact Or.inl ⟨t, st2, r2, _, HCC.out, rfl, hr2, HREP.out, hk2⟩
  ·go_wp2
   exact ⟨rfl, Or.inr ⟨hcc, rfl, hk2⟩⟩
 | false =>
  have hgs := HG.out hc
  have HGS := hide hgs
  have HC := hide hc
  clear hc hgs HN HG
  go_enter Tryz.func147, Tryz.ntmps147
  go_wp2_with fail
  refine (hasPrefix2_any s [40] w hs (by simp)).mono ?_
  rw [HC.out]
  rintro e w1 ⟨rfl, rfl⟩
  go_wp2_with fail
  refine (HA.out).mono ?_
  rintro e w2 (⟨t, st2, r2, v2, hcc, rfl, hr2, hrep, hk2⟩ | ⟨hcc, rfl, hk2⟩)
  ·obtain ⟨T2, x2, rfl⟩ := hrep.shape
   have HCC := hide hcc
   have HREP := hide hrep
   clear hcc hrep
   go_wp2
   go_ret
   exact Or.inl ⟨t, st2, r2, _, by rw [HGS.out]; exact HCC.out, rfl, hr2, HREP.out, hk2⟩
  ·go_wp2
   exact ⟨rfl, Or.inr ⟨by rw [HGS.out]; exact hcc, rfl, hk2⟩⟩
theorem part_reads : ∀ (k : Nat), k <= 3 -> Reads 147 (5 - (k : Int)) (Code.partS k) false LP
 | 0, _ => by
  refine part_of 5 (Code.partS 0) (by omega) (by omega) ?_ ?_
  ·intro rb B s l st w hr hs hsn ht hrb hB hBw hc
   refine (node_deep rb B s l st w hr hs ht hrb hB).mono ?_
   intro e w' h
   exact Or.inr ⟨by simp [Code.partS, hc], h⟩
  ·intro st s hc
   simp [Code.partS, hc]
 | k + 1, hk => by
  have ih := part_reads k (by omega)
  refine part_of _ (Code.partS (k + 1)) (by omega) (by omega) ?_ ?_
  ·intro rb B s l st w hr hs hsn ht hrb hB hBw hc
   have h := node_of (5 - ((k + 1 : Nat) : Int)) (by omega) (by omega) (Code.partS k) (partS_tame k) (by rw [show (5 - ((k + 1 : Nat) : Int)) + 1 = 5 - (k : Int) by omega]; exact ih) rb B s l st w hr hs hsn ht hrb hB hBw
   have e : Code.partS (k + 1) st s = Code.operS (Code.partS k) .op st s := by simp [Code.partS, hc]
   rw [e]
   exact h
  ·intro st s hc
   simp [Code.partS, hc]
theorem node_any (rb B : Nat) (s : List UInt8) (l : Int) (st : RSt) (w : World) (hr : Rdr w rb B s l st) (hs : s.length <= 3000) (hsn : st.names.length + s.length <= 6000) (ht : Tab w) (hrb : 0 < rb) (hB : 0 < B) (hBw : B <= w.heap.size) :
  Calls Tryz.prog 100 #[.pointer (some ⟨rb, 0, none⟩), .int .i64 1] w fun e w' => NodePost (Code.operS (Code.partS 3) .op st s) w rb B l e w' :=
 node_of 1 (by omega) (by omega) (Code.partS 3) (partS_tame 3) (part_reads 3 (Nat.le_refl _)) rb B s l st w hr hs hsn ht hrb hB hBw
theorem infoResult : (Tryz.prog.info? 121).map (fun i => (i.zero, i.size, i.bytes)) = some (some .nilIface, 1, 16) := by kernel_rfl
theorem kidRow_madeResult {w : World} {base g n : Nat} (h : w.ownsRow base 121 1 (.slice (some ⟨g, 0, none⟩) n n) n (madeCells Value.nilIface.cells (n * 1)).toList) : kidRow w g 121 [] n := by
 rcases h.2 with ⟨h0, _⟩ | ⟨g', cap, cur, hv, _, hg, _, _, hs, ht⟩
 ·cases h0
 ·simp only [Value.slice.injEq, Option.some.injEq, Addr.mk.injEq] at hv
  obtain ⟨⟨rfl, _⟩, _, rfl⟩ := hv
  unfold kidRow
  rw [hg]
  congr 2
  apply Array.toList_inj.1
  rw [<- List.take_of_length_le (l := cur.toList) (i := n * 1) (by simp [hs]), ht]
  apply List.ext_getElem
  ·simp [madeCells]
  ·intro i h1 h2
   simp [madeCells, Value.cells, Nat.mod_one]
theorem operResult_any (K : Nat) (hE : ∀ args w, (callFunc K args).run Tryz.prog w = .ok (.enter K args) w) (d : Int) (hd1 : 1 <= d) (hd4 : d <= 4) (f : Prs) (L : RSt -> Int -> Nm -> Prop) (hK : Reads K (d + 1) f true L) (hL : ∀ st s t st' r, f st s = some (t, st', r) -> ∀ i p, L st i p -> L st' i p)
  (hN : ∀ st s t st' r, f st s = some (t, st', r) -> st'.names.length + r.length <= st.names.length + s.length /\ r.length <= s.length)
  (rb B : Nat) (s : List UInt8) (l : Int) (st : RSt) (w : World) (hr : Rdr w rb B s l st) (hs : s.length <= 3000) (hsn : st.names.length + s.length <= 6000) (ht : Tab w) (hrb : 0 < rb) (hB : 0 < B) (hBw : B <= w.heap.size) :
  Calls Tryz.prog 151 #[.pointer (some ⟨rb, 0, none⟩), .int .i64 d, .func (.func K) #[.pointer (some ⟨rb, 0, none⟩)] #[]] w fun e w' => OperPost (operK f st s) w rb B l true L e w' := by
 obtain ⟨i0, hi, hi0, hi1, hi2⟩ := info_parts infoResult
 have HK := hide hK
 have HL := hide hL
 have HN := hide hN
 have HT := hide ht
 clear hK hL hN ht
 go_enter Tryz.func151, Tryz.ntmps151
 go_wp2_with fail
 refine (take_rdr rb B s [40] l st w hr hs (by simp)).mono ?_
 rintro e w1 (⟨s1, hc, rfl, hr1, hg1⟩ | ⟨hc, rfl, hk1⟩)
 case inr =>
  go_wp2
  exact ⟨rfl, Or.inr ⟨by simp [operK, hc], rfl, hk1⟩⟩
 have l1 := Code.cut_length hc
 have HA : Hid (operK f st s = (Code.opNamed (Code.word s1)).bind fun k => (Code.kidsS f (Code.opOf k) st (Code.behind s1)).bind fun p => (Code.cut [41] p.2.2).map fun r => (k, p.1, p.2.1, r)) := by simp [Hid, operK, hc]
 clear hc
 have hk1 : Kin w w1 rb B := Kin.grown hg1
 go_wp2_with fail
 refine (letters_rdr rb B s1 l st w1 hr1 (by omega)).mono ?_
 rintro e w2 ⟨rfl, hr2, hg2⟩
 have hk2 : Kin w w2 rb B := hk1.trans (Kin.grown hg2)
 have l2 := Code.rest_length 97 122 s1
 have l2' : (Code.behind s1).length <= s1.length := l2
 generalize Code.behind s1 = s2 at *
 generalize Code.word s1 = ww at *
 clear l2 hk1 hg1 hg2 hr1
 go_wp2_with fail
 refine (opNamed_any ww w2 (hk2.tab hrb hB HT.out)).mono ?_
 rintro e w3 ⟨⟨k, hk13, hc, rfl⟩ | ⟨hc, rfl⟩, hb3⟩
 case inr =>
  have hr3 := hr2.below hb3
  have hk3 := hk2.trans (Kin.below hb3)
  have HC := hide hc
  clear hc
  go_wp2_with fail
  refine (fail_rdr rb B _ l st w3 hr3).mono ?_
  rintro e w4 ⟨rfl, hk4⟩
  go_wp2
  exact ⟨rfl, Or.inr ⟨by rw [HA.out, HC.out]; rfl, rfl, hk3.trans hk4⟩⟩
 have hr3 := hr2.below hb3
 have hk3 : Kin w w3 rb B := hk2.trans (Kin.below hb3)
 have HA2 : Hid (operK f st s = (Code.kidsS f (Code.opOf k) st s2).bind fun p => (Code.cut [41] p.2.2).map fun r => (k, p.1, p.2.1, r)) := by rw [HA.out, hc]; exact rfl
 have hop := Code.opOf_range k hk13
 clear hc hr2 hb3 hk2 HA
 go_wp2_with fail
 refine (opOf_any k w3 hk13 (hk3.tab hrb hB HT.out)).mono ?_
 rintro e w3 ⟨rfl, rfl⟩
 have HOP : Hid (Code.opOf k = Code.opOf k) := hide rfl
 generalize hNN : Code.opOf k = N at *
 obtain ⟨hop1, hop2⟩ := hop
 have hsz3 := hk3.size
 go_wp2_with (first | (at_make; refine wpList_make_full _ rfl _ _ 264 rfl w.heap.size 121 i0 .nilIface 1 Tryz.underlying264 hi hi0 hi1 .i64 .i64 _ _ N rfl rfl rfl rfl (by rw [hi2]; omega) (by unfold maxLen; omega) (by omega) ?_; intro w4 hown4 hgrow4; have hrow4 := kidRow_madeResult hown4))
 have hb4 : Below w3.heap.size w3 w4 := ⟨hgrow4.os, hgrow4.tape, hgrow4.output, hgrow4.size, fun q hq => hgrow4.block q hq (by simp)⟩
 have hr4 := hr3.below hb4
 have hk4 : Kin w w4 rb B := hk3.trans (Kin.below hb4)
 have hrlt : rb < w3.heap.size := by
  obtain ⟨X, hX⟩ := hr3.rd
  exact lt_of_block hX
 generalize hG : w3.heap.size = g at *
 have hgl : g < w4.heap.size := lt_of_block hrow4
 have hgne : g ≠ rb := by omega
 clear hown4 hgrow4 hb4 hr3 hk3 HOP
 go_loopw [39] (fun i wr => ∃ (j : Nat) (vs : List Value) (ts : List RTree) (st' : RSt) (t : List UInt8), j <= N /\ vs.length = j /\ i = .int .i64 j /\ kidRow wr g 121 vs (N - j) /\ Rdr wr rb B t l st' /\ t.length <= s.length /\ st'.names.length + t.length <= 6000 /\ Kin w wr rb B /\ RepTs wr (g + 1) true (L st') vs ts /\
   Hid (operK f st s = (Code.kidsS f (N - j) st' t).bind fun p => (Code.cut [41] p.2.2).map fun r => (k, ts ++ p.1, p.2.1, r)))
  (fun i _ => N - (intOf i).toNat)
 case atStart => exact ⟨0, [], [], st, s2, by omega, rfl, rfl, hrow4, hr4, by omega, by omega, hk4, trivial, HA2⟩
 case round =>
  obtain ⟨j, vs, ts, st', t, hj, hvl, rfl, hrow, hrd, htl, htn, hkw, hts, hsp⟩ := hrel
  clear hrow4 hr4 hk4 HA2
  have hgw := lt_of_block hrow
  have hwz := hkw.size
  by_cases hlt : j < N
  ·have hsp' : Hid (operK f st s = ((Code.cut [32] t).bind fun r => (f st' r).bind fun p => (Code.kidsS f (N - (j + 1)) p.2.1 p.2.2).map fun q => (p.1 :: q.1, q.2)).bind fun p => (Code.cut [41] p.2.2).map fun r => (k, ts ++ p.1, p.2.1, r)) := by
    rw [hsp.out, show N - j = (N - (j + 1)) + 1 by omega]; exact rfl
   clear hsp
   go_wp2_with fail
   refine (take_rdr rb B t [32] l st' wr hrd (by omega) (by simp)).mono ?_
   rintro e w5 (⟨r5, hc, rfl, hr5, hg5⟩ | ⟨hc, rfl, hk5⟩)
   case inr =>
    go_wp2
    exact ⟨rfl, Or.inr ⟨by rw [hsp'.out, hc]; rfl, rfl, hkw.trans hk5⟩⟩
   have H5 : Hid (operK f st s = ((f st' r5).bind fun p => (Code.kidsS f (N - (j + 1)) p.2.1 p.2.2).map fun q => (p.1 :: q.1, q.2)).bind fun p => (Code.cut [41] p.2.2).map fun r => (k, ts ++ p.1, p.2.1, r)) := by
    rw [hsp'.out, hc]; exact rfl
   have l5 := Code.cut_length hc
   have hk5 : Kin wr w5 rb B := Kin.grown hg5
   have hkw5 := hkw.trans hk5
   obtain ⟨X5, hX5⟩ := hrd.rd
   have hts5 : RepTs w5 (g + 1) true (L st') vs ts := RepTs.kept (hk5.keeps hX5) (Nat.le_refl _) (fun _ _ h => h) ts vs hts
   have hrow5 : kidRow w5 g 121 vs (N - j) := kept_block hrow hg5 hgne
   have hz5 := hkw5.size
   have hzz := hk5.size
   have HTS := hide hts5
   clear hc hsp' hts hrow hk5 hg5 hrd hX5 hts5
   go_wp2_with fail
   refine (HK.out rb B r5 l st' w5 hr5 (by omega) (by omega) (hkw5.tab hrb hB HT.out) hrb hB (by omega)).mono ?_
   rintro e w6 (⟨t6, st6, r6, v6, hc, rfl, hr6, hrep6, hk6⟩ | ⟨hc, rfl, hk6⟩)
   case inr =>
    go_wp2
    exact ⟨rfl, Or.inr ⟨by rw [H5.out, hc]; rfl, rfl, hkw5.trans hk6⟩⟩
   obtain ⟨T6, x6, rfl⟩ := hrep6.shape
   have H6 : Hid (operK f st s = (Code.kidsS f (N - (j + 1)) st6 r6).bind fun p => (Code.cut [41] p.2.2).map fun r => (k, ts ++ [t6] ++ p.1, p.2.1, r)) := by
    rw [H5.out, hc]
    refine hide ?_
    simp only [Option.bind_some]
    cases Code.kidsS f (N - (j + 1)) st6 r6 with
    | none => rfl
    | some q => simp
   obtain ⟨n6, l6⟩ := HN.out _ _ _ _ _ hc
   have hmono6 := HL.out _ _ _ _ _ hc
   obtain ⟨X6, hX6⟩ := hr5.rd
   have hts6 : RepTs w6 (g + 1) true (L st6) vs ts := RepTs.kept (hk6.keeps hX6) (Nat.le_refl _) hmono6 ts vs HTS.out
   have hrow6 : kidRow w6 g 121 vs (N - j) := hk6.block g _ hrow5 hgne (Or.inr (by intro C z h; simp only [Obj.cells.injEq] at h; exact absurd h.2.1 (by decide)))
   have hrep : RepT w6 (g + 1) true (L st6) (.iface T6 x6) t6 := RepT.kept (keeps_refl _ _) (by omega) (fun _ _ h => h) t6 _ hrep6
   have HR6 := hide (RepTs.snoc hts6 hrep)
   have hc6 : w6.cell? ⟨g, j, none⟩ = some .nilIface := blk_cell hrow6 j _ (by rw [show N - j = (N - (j + 1)) + 1 by omega, <- hvl]; simp [List.replicate_succ])
   have hf6 := blk_froz hrow6 j
   have hjl : (j : Int) < (N : Int) := by omega
   have hkw6 := hkw5.trans hk6
   have HROW := hide hrow6
   clear hc H5 hts6 hrep hrep6 hmono6 HTS hX6 hr5 hrow5 hrow6 hkw hkw5 hk6
   go_wp2
   have hrow6 := HROW.out
   refine ⟨⟨j + 1, vs ++ [.iface T6 x6], ts ++ [t6], st6, r6, by omega, by simp [hvl], by go_num, ?_, hr6.set hrow6 (by decide) (by decide), by omega, by omega, hkw6.set_new (by omega) _ _, ?_, H6⟩, by simp [intOf]; omega⟩
   ·rw [show N - j = (N - (j + 1)) + 1 by omega] at hrow6
    have h := hrow6.set (.iface T6 x6)
    rw [hvl] at h
    exact h
   ·exact RepTs.kept (keeps_set (by omega)) (Nat.le_refl _) (fun _ _ h => h) _ _ HR6.out
  ·have hjn : j = N := by omega
   have HD : Hid (operK f st s = (Code.cut [41] t).map fun r => (k, ts, st', r)) := by
    rw [hsp.out, hjn]
    simp [Hid, Code.kidsS]
   have HR : Hid (kidRow wr g 121 vs 0) := by
    have h := hrow
    rw [hjn, Nat.sub_self] at h
    exact h
   have HTS := hide hts
   obtain ⟨X5, hX5⟩ := hrd.rd
   clear hsp hrow hts
   go_wp2_with fail
   refine (take_rdr rb B t [41] l st' wr hrd (by omega) (by simp)).mono ?_
   rintro e w5 (⟨r5, hc, rfl, hr5, hg5⟩ | ⟨hc, rfl, hk5⟩)
   case inr =>
    go_wp2
    exact ⟨rfl, Or.inr ⟨by rw [HD.out, hc]; rfl, rfl, hkw.trans hk5⟩⟩
   have hk5 : Kin wr w5 rb B := Kin.grown hg5
   have H5 : Hid (operK f st s = some (k, ts, st', r5)) := by rw [HD.out, hc]; exact rfl
   have HO : Hid (w5.ownsRow w.heap.size 121 1 (.slice (some ⟨g, 0, none⟩) N N) vs.length vs) := (kidRow.own (kept_block HR.out hg5 hgne) (by omega) (by omega) (by omega))
   have HT5 : Hid (RepTs w5 w.heap.size true (L st') vs ts) := RepTs.kept (hk5.keeps hX5) (by omega) (fun _ _ h => h) ts vs HTS.out
   clear hc HD hX5
   go_wp2
   go_ret2
   exact Or.inl ⟨k, ts, st', r5, _, vs, H5.out, hk13, rfl, hr5, by rw [hNN]; omega, HO.out, HT5.out, hkw.trans hk5⟩
theorem isNm_name (v : Value) (w : World) : (Instr.typeAssert (.iface 225 v) 121 225 true).run Tryz.prog w = .ok (.tuple #[v, .bool true]) w := by kernel_rfl
theorem isNm_hash (v : Value) (w : World) : (Instr.typeAssert (.iface 316 v) 121 225 true).run Tryz.prog w = .ok (.tuple #[.agg #[.int .i64 0], .bool false]) w := by kernel_rfl
theorem isNm_num (v : Value) (w : World) : (Instr.typeAssert (.iface 313 v) 121 225 true).run Tryz.prog w = .ok (.tuple #[.agg #[.int .i64 0], .bool false]) w := by kernel_rfl
theorem isNm_make (v : Value) (w : World) : (Instr.typeAssert (.iface 271 v) 121 225 true).run Tryz.prog w = .ok (.tuple #[.agg #[.int .i64 0], .bool false]) w := by kernel_rfl
theorem isNm_rec (v : Value) (w : World) : (Instr.typeAssert (.iface 266 v) 121 225 true).run Tryz.prog w = .ok (.tuple #[.agg #[.int .i64 0], .bool false]) w := by kernel_rfl
theorem isMk_name (v : Value) (w : World) : (Instr.typeAssert (.iface 225 v) 121 271 true).run Tryz.prog w = .ok (.tuple #[.agg #[.int .i64 0, .slice none 0 0], .bool false]) w := by kernel_rfl
theorem isMk_hash (v : Value) (w : World) : (Instr.typeAssert (.iface 316 v) 121 271 true).run Tryz.prog w = .ok (.tuple #[.agg #[.int .i64 0, .slice none 0 0], .bool false]) w := by kernel_rfl
theorem isMk_num (v : Value) (w : World) : (Instr.typeAssert (.iface 313 v) 121 271 true).run Tryz.prog w = .ok (.tuple #[.agg #[.int .i64 0, .slice none 0 0], .bool false]) w := by kernel_rfl
theorem isMk_make (v : Value) (w : World) : (Instr.typeAssert (.iface 271 v) 121 271 true).run Tryz.prog w = .ok (.tuple #[v, .bool true]) w := by kernel_rfl
theorem isMk_rec (v : Value) (w : World) : (Instr.typeAssert (.iface 266 v) 121 271 true).run Tryz.prog w = .ok (.tuple #[.agg #[.int .i64 0, .slice none 0 0], .bool false]) w := by kernel_rfl
theorem RepT.kind {w : World} {base : Nat} {L : Int -> Nm -> Prop} {v : Value} {t : RTree} (h : RepT w base true L v t) :
  (t.known = false /\ ((∃ i : Int, v = .iface 225 (.agg #[.int .i64 i])) \/ ∃ k sv, v = .iface 271 (.agg #[k, sv]))) \/
  (t.known = true /\ ((∃ i : Int, v = .iface 316 (.agg #[.int .i64 i])) \/ (∃ i : Int, v = .iface 313 (.agg #[.int .i32 i])) \/ ∃ k sv, v = .iface 266 (.agg #[k, sv]))) := by
 cases t with
 | name x => obtain ⟨i, rfl, _⟩ := h; exact Or.inl ⟨rfl, Or.inl ⟨i, rfl⟩⟩
 | hash x => obtain ⟨i, rfl, _⟩ := h; exact Or.inr ⟨rfl, Or.inl ⟨i, rfl⟩⟩
 | num c => obtain ⟨rfl, _⟩ := h; exact Or.inr ⟨rfl, Or.inr (Or.inl ⟨c, rfl⟩)⟩
 | op k kids => obtain ⟨sv, vs, rfl, _⟩ := h; exact Or.inl ⟨rfl, Or.inr ⟨_, _, rfl⟩⟩
 | fold k kids => obtain ⟨sv, vs, rfl, _⟩ := h; exact Or.inr ⟨rfl, Or.inr (Or.inr ⟨_, _, rfl⟩)⟩
theorem known_of (d : Int) (g : Prs) (hK : Reads 102 d g true LR) : Reads 191 d (Code.knownS g) true LR := by
 intro rb B s l st w hr hs hsn ht hrb hB hBw
 have HK := hide (hK rb B s l st w hr hs hsn ht hrb hB hBw)
 clear hK
 go_enter Tryz.func191, Tryz.ntmps191
 go_wp2_with fail
 refine (HK.out).mono ?_
 rintro e w1 (⟨t, st1, r1, v1, hc, rfl, hr1, hrep, hk1⟩ | ⟨hc, rfl, hk1⟩)
 ·have HREP := hide hrep
  rcases hrep.kind with ⟨hkn, hv⟩ | ⟨hkn, hv⟩
  ·have HC : Hid (Code.knownS g st s = none) := by simp [Hid, Code.knownS, hc, hkn]
   clear hc hkn hrep HREP
   rcases hv with ⟨i, rfl⟩ | ⟨kv, sv, rfl⟩
   ·have t1 := isNm_name (.agg #[.int .i64 i])
    have t2 := isMk_name (.agg #[.int .i64 i])
    go_wp2_with fail
    refine (fail_rdr rb B _ l st1 w1 hr1).mono ?_
    rintro e w2 ⟨rfl, hk2⟩
    go_wp2
    exact ⟨rfl, Or.inr ⟨HC.out, rfl, hk1.trans hk2⟩⟩
   ·have t1 := isNm_make (.agg #[kv, sv])
    have t2 := isMk_make (.agg #[kv, sv])
    go_wp2_with fail
    refine (fail_rdr rb B _ l st1 w1 hr1).mono ?_
    rintro e w2 ⟨rfl, hk2⟩
    go_wp2
    exact ⟨rfl, Or.inr ⟨HC.out, rfl, hk1.trans hk2⟩⟩
  ·have HC : Hid (Code.knownS g st s = some (t, st1, r1)) := by simp [Hid, Code.knownS, hc, hkn]
   clear hc hkn hrep
   rcases hv with ⟨i, rfl⟩ | ⟨i, rfl⟩ | ⟨kv, sv, rfl⟩
   ·have t1 := isNm_hash (.agg #[.int .i64 i])
    have t2 := isMk_hash (.agg #[.int .i64 i])
    go_wp2
    go_ret
    exact Or.inl ⟨t, st1, r1, _, HC.out, rfl, hr1, HREP.out, hk1⟩
   ·have t1 := isNm_num (.agg #[.int .i32 i])
    have t2 := isMk_num (.agg #[.int .i32 i])
    go_wp2
    go_ret
    exact Or.inl ⟨t, st1, r1, _, HC.out, rfl, hr1, HREP.out, hk1⟩
   ·have t1 := isNm_rec (.agg #[kv, sv])
    have t2 := isMk_rec (.agg #[kv, sv])
    go_wp2
    go_ret
    exact Or.inl ⟨t, st1, r1, _, HC.out, rfl, hr1, HREP.out, hk1⟩
 ·go_wp2
  exact ⟨rfl, Or.inr ⟨by simp [Code.knownS, hc], rfl, hk1⟩⟩
theorem findS_names {st st' : RSt} {p : Nm} (h : Code.findS st p = some st') : st'.names = st.names := by
 simp only [Code.findS, Option.some.injEq] at h
 subst h; rfl
theorem filter_tame {f : Prs} {q : RTree -> Bool} (hf : Tame f) : Tame (fun st s => (f st s).filter fun p => q p.1) := by
 intro st s t st' r h
 have h : (f st s).filter (fun p => q p.1) = some (t, st', r) := h
 cases hc : f st s with
 | none => rw [hc] at h; cases h
 | some p =>
  rw [hc] at h
  by_cases hq : q p.1 = true
  ·have : Option.filter (fun p : RTree × RSt × List UInt8 => q p.1) (some p) = some p := by simp [hq]
   rw [this] at h
   exact hf st s t st' r (hc.trans h)
  ·have : Option.filter (fun p : RTree × RSt × List UInt8 => q p.1) (some p) = none := by simp [hq]
   rw [this] at h; cases h
theorem resS_tame : ∀ d, Tame (Code.resS d)
 | 0 => fun st s t st' r h => by
  simp only [Code.resS] at h
  split at h
  ·cases h
  ·split at h
   ·cases h
   ·exact atomS_tame (fun _ _ _ h => ⟨⟨[], by rw [findS_names h]; simp⟩, by rw [findS_names h]; omega⟩) st s t st' r h
 | d + 1 => fun st s t st' r h => by
  simp only [Code.resS] at h
  split at h
  ·rename_i r' hr'
   have h1 := Code.cut_length hr'
   obtain ⟨a, b, c⟩ := filter_tame (q := fun t => !t.isDiv) (operS_tame (filter_tame (q := RTree.known) (resS_tame d)) .fold) st r' t st' r h
   exact ⟨a, by omega, by omega⟩
  ·split at h
   ·exact operS_tame (resS_tame d) _ st s t st' r h
   ·exact atomS_tame (fun _ _ _ h => ⟨⟨[], by rw [findS_names h]; simp⟩, by rw [findS_names h]; omega⟩) st s t st' r h
def Still (f : Prs) : Prop := ∀ st s t st' r, f st s = some (t, st', r) -> st'.names = st.names
theorem kidsS_still {f : Prs} (hf : Still f) : ∀ (n : Nat) (st : RSt) (s : List UInt8) (l : List RTree) (st' : RSt) (r : List UInt8), Code.kidsS f n st s = some (l, st', r) -> st'.names = st.names
 | 0, st, s, l, st', r, h => by
  simp only [Code.kidsS, Option.some.injEq, Prod.mk.injEq] at h
  rw [h.2.1]
 | n + 1, st, s, l, st', r, h => by
  simp only [Code.kidsS, Option.bind_eq_some_iff, Option.map_eq_some_iff, Prod.mk.injEq] at h
  obtain ⟨a, ha, p, hp, q, hq, _, hq2⟩ := h
  have e1 : q.2.1 = st' := congrArg Prod.fst hq2
  rw [<- e1, kidsS_still hf n p.2.1 p.2.2 q.1 q.2.1 q.2.2 hq, hf st a p.1 p.2.1 p.2.2 hp]
theorem operS_still {f : Prs} (hf : Still f) (mk : Nat -> List RTree -> RTree) : Still (Code.operS f mk) := by
 intro st s t st' r h
 simp only [Code.operS, Option.bind_eq_some_iff, Option.map_eq_some_iff, Prod.mk.injEq] at h
 obtain ⟨a, ha, k, _, p, hp, v, hv, _, rfl, rfl⟩ := h
 exact kidsS_still hf _ _ _ p.1 p.2.1 p.2.2 hp
theorem atomS_still : Still (Code.atomS Code.findS) := by
 intro st s t st' r hh
 simp only [Code.atomS, Option.bind_eq_some_iff, Option.map_eq_some_iff, Prod.mk.injEq] at hh
 obtain ⟨p, hp, st1, hl, rfl, rfl, rfl⟩ := hh
 unfold RTree.leaf at hl
 split at hl
 ·exact findS_names hl
 ·exact findS_names hl
 ·simp only [Option.some.injEq] at hl
  rw [hl]
theorem filter_still {f : Prs} {q : RTree -> Bool} (hf : Still f) : Still (fun st s => (f st s).filter fun p => q p.1) := by
 intro st s t st' r h
 have h : (f st s).filter (fun p => q p.1) = some (t, st', r) := h
 cases hc : f st s with
 | none => rw [hc] at h; cases h
 | some p =>
  rw [hc] at h
  by_cases hq : q p.1 = true
  ·have : Option.filter (fun p : RTree × RSt × List UInt8 => q p.1) (some p) = some p := by simp [hq]
   rw [this] at h
   exact hf st s t st' r (hc.trans h)
  ·have : Option.filter (fun p : RTree × RSt × List UInt8 => q p.1) (some p) = none := by simp [hq]
   rw [this] at h; cases h
theorem resS_still : ∀ d, Still (Code.resS d)
 | 0 => fun st s t st' r h => by
  simp only [Code.resS] at h
  split at h
  ·cases h
  ·split at h
   ·cases h
   ·exact atomS_still st s t st' r h
 | d + 1 => fun st s t st' r h => by
  simp only [Code.resS] at h
  split at h
  ·exact filter_still (q := fun t => !t.isDiv) (operS_still (filter_still (q := RTree.known) (resS_still d)) .fold) st _ t st' r h
  ·split at h
   ·exact operS_still (resS_still d) _ st s t st' r h
   ·exact atomS_still st s t st' r h
theorem LR.mono {st st' : RSt} (h : st'.names = st.names) {i : Int} {p : Nm} (hp : LR st i p) : LR st' i p := by
 unfold LR at *
 rw [h]; exact hp
def RecPost (o : Option (RTree × RSt × List UInt8)) (w : World) (rb B : Nat) (l : Int) (e : Ending) (w' : World) : Prop :=
 (∃ t st r v, o = some (t, st, r) /\ e = .returned v /\ (∃ a b, v = .agg #[a, b]) /\ Rdr w' rb B r l st /\ RepT w' w.heap.size true (LR st) (.iface 266 v) t /\ Kin w w' rb B) \/ (o = none /\ FailsK w rb B l 6 e w')
theorem isDiv_fold (k : Nat) (l : List RTree) : (RTree.fold k l).isDiv = decide (k = 3) := by
 unfold RTree.isDiv
 split
 ·rename_i h; injection h with h1 h2; subst h1; rfl
 ·rename_i h; cases h
 ·rename_i h h'
  have : k ≠ 3 := fun e => h l (by rw [e])
  simp [this]
theorem reckon_of (d : Int) (hd1 : 1 <= d) (hd4 : d <= 4) (f : Prs) (hf : Tame f) (hst : Still f) (hK : Reads 191 (d + 1) (Code.knownS f) true LR)
  (rb B : Nat) (s : List UInt8) (l : Int) (st : RSt) (w : World) (hr : Rdr w rb B s l st) (hs : s.length <= 3000) (hsn : st.names.length + s.length <= 6000) (ht : Tab w) (hrb : 0 < rb) (hB : 0 < B) (hBw : B <= w.heap.size) :
  Calls Tryz.prog 149 #[.pointer (some ⟨rb, 0, none⟩), .int .i64 d] w fun e w' => RecPost (Code.foldS f st s) w rb B l e w' := by
 have hmf : ∀ (fn : Fn) (first cap : Array Value) (w : World), (Instr.makeFunc fn first cap).run Tryz.prog w = .ok (.func fn first cap) w := fun _ _ _ _ => rfl
 have HO := hide (operResult_any 191 (fun _ _ => Tryz.call191 _ _) d hd1 hd4 (Code.knownS f) LR hK (fun st s t st' r h i p hp => LR.mono (filter_still (q := RTree.known) hst st s t st' r h) hp) (fun st s t st' r h => (filter_tame (q := RTree.known) hf st s t st' r h).2))
 have HEQ : Hid (Code.foldS f st s = ((operK (Code.knownS f) st s).map fun p => ((.fold p.1 p.2.1 : RTree), p.2.2)).filter fun q => !q.1.isDiv) := by
  rw [<- operS_eq]; exact rfl
 have HT := hide ht
 have hrlt : rb < w.heap.size := by
  obtain ⟨X, hX⟩ := hr.rd
  exact lt_of_block hX
 clear hK hf ht hst
 go_enter Tryz.func149, Tryz.ntmps149
 go_wp2_with fail
 generalize hw0 : w.alloc _ = w0
 have hb0 : Below w.heap.size w w0 := by rw [<- hw0]; exact below_al (Below.refl _ _) _
 have hn0 : w0.heap[w.heap.size]? = some (.cells #[.int .i64 0, .slice none 0 0] 266) := by rw [<- hw0]; exact heap_alloc_new w _
 have hz0 : w0.heap.size = w.heap.size + 1 := by rw [<- hw0]; simp
 clear hw0
 have hk0 : Kin w w0 rb B := Kin.below hb0
 have hr0 := hr.below hb0
 refine (HO.out rb B s l st w0 hr0 hs hsn (hk0.tab hrb hB HT.out) hrb hB (by omega)).mono ?_
 rintro e w1 (⟨k, ts, st1, r1, sv, vs, hc, hk13, rfl, hr1, hvl, hown, hts, hk1⟩ | ⟨hc, rfl, hk1⟩)
 ·obtain ⟨sp, sc, rfl⟩ := own_slice hown
  by_cases hdiv : k = 3
  ·have HC : Hid (Code.foldS f st s = none) := by rw [HEQ.out, hc]; subst hdiv; exact rfl
   have hd' : ((k : Int) == 3) = true := by simp [hdiv]
   clear hc hown hts hvl hdiv
   go_wp2_with fail
   refine (fail_rdr rb B _ l st1 w1 hr1).mono ?_
   rintro e w2 ⟨rfl, hk2⟩
   go_wp2
   exact ⟨rfl, Or.inr ⟨HC.out, rfl, (hk0.trans hk1).trans hk2⟩⟩
  ·have HC : Hid (Code.foldS f st s = some (.fold k ts, st1, r1)) := by
    rw [HEQ.out, hc]
    refine hide ?_
    have : (!(RTree.fold k ts).isDiv) = true := by rw [isDiv_fold]; simp [hdiv]
    simp [this]
   have hd' : ((k : Int) == 3) = false := beq_eq_false_iff_ne.2 (by omega)
   have hn1 : w1.heap[w.heap.size]? = some (.cells #[.int .i64 0, .slice none 0 0] 266) := hk1.block _ _ hn0 (by omega) (Or.inr (by intro C z h; simp only [Obj.cells.injEq] at h; exact absurd h.2.1 (by decide)))
   have hc0 := blk_cell hn1 0 _ rfl
   have hc1 := blk_cell hn1 1 _ rfl
   have hf0 := blk_froz hn1 0
   have hf1 := blk_froz hn1 1
   have HH := hide hown
   have HTS := hide hts
   have HVL := hide hvl
   clear hc hown hts hvl hdiv
   go_wp2
   refine bodyPost_ret (v := .agg #[.int .i64 (k : Nat), .slice sp vs.length sc]) (by simp [results, Tryz.results149, go_sem, hc0, hc1]) rfl ?_
   have hset : KeepsT w1 ((w1.setCell ⟨w.heap.size, 0, none⟩ (.int .i64 (k : Nat))).setCell ⟨w.heap.size, 1, none⟩ (.slice sp vs.length sc)) (w.heap.size + 1) := fun b C T z h1 h2 h3 => stay_set (stay_set h1 (show b ≠ w.heap.size by omega)) (show b ≠ w.heap.size by omega)
   have hn2 := set_block (o := 0) (v := .int .i64 (k : Nat)) hn1
   refine Or.inl ⟨.fold k ts, st1, r1, _, HC.out, rfl, ⟨_, _, rfl⟩, (hr1.set hn1 (by decide) (by decide)).set hn2 (by decide) (by decide), ⟨_, vs, rfl, hk13, HVL.out, ?_, ?_⟩, ((hk0.trans hk1).set_new (Nat.le_refl _) _ _).set_new (Nat.le_refl _) _ _⟩
   ·have h1 : w1.ownsRow (w.heap.size + 1) 121 1 (.slice sp vs.length sc) vs.length vs := own_base HH.out (by omega)
    exact own_base (hset.own (Or.inr rfl) h1) (by omega)
   ·exact RepTs.kept hset (by omega) (fun _ _ h => h) ts vs (RepTs.kept (keeps_refl _ _) (by omega) (fun _ _ h => h) ts vs HTS.out)
 ·go_wp2
  exact ⟨rfl, Or.inr ⟨by rw [HEQ.out, hc]; rfl, rfl, hk0.trans hk1⟩⟩
theorem reckon_deep (rb B : Nat) (s : List UInt8) (l : Int) (st : RSt) (w : World) (hr : Rdr w rb B s l st) (hs : s.length <= 3000) (ht : Tab w) (hrb : 0 < rb) (hB : 0 < B) :
  Calls Tryz.prog 149 #[.pointer (some ⟨rb, 0, none⟩), .int .i64 5] w fun e w' => FailsK w rb B l 6 e w' := by
 have hmf : ∀ (fn : Fn) (first cap : Array Value) (w : World), (Instr.makeFunc fn first cap).run Tryz.prog w = .ok (.func fn first cap) w := fun _ _ _ _ => rfl
 have HT := hide ht
 have hrlt : rb < w.heap.size := by
  obtain ⟨X, hX⟩ := hr.rd
  exact lt_of_block hX
 clear ht
 go_enter Tryz.func149, Tryz.ntmps149
 go_wp2_with fail
 generalize hw0 : w.alloc _ = w0
 have hb0 : Below w.heap.size w w0 := by rw [<- hw0]; exact below_al (Below.refl _ _) _
 clear hw0
 have hk0 : Kin w w0 rb B := Kin.below hb0
 refine (operResult_deep _ rb B s l st w0 (hr.below hb0) hs (hk0.tab hrb hB HT.out) hrb hB).mono ?_
 rintro e w1 ⟨rfl, hk1⟩
 go_wp2
 exact ⟨rfl, rfl, hk0.trans hk1⟩
theorem result_of (d : Int) (g : Prs) (gf go : Prs)
  (hF : ∀ (rb B : Nat) (s : List UInt8) (l : Int) (st : RSt) (w : World), Rdr w rb B s l st -> s.length <= 3000 -> st.names.length + s.length <= 6000 -> Tab w -> 0 < rb -> 0 < B -> B <= w.heap.size ->
    Calls Tryz.prog 149 #[.pointer (some ⟨rb, 0, none⟩), .int .i64 d] w fun e w' => RecPost (gf st s) w rb B l e w')
  (hO : ∀ (rb B : Nat) (s : List UInt8) (l : Int) (st : RSt) (w : World), Rdr w rb B s l st -> s.length <= 3000 -> st.names.length + s.length <= 6000 -> Tab w -> 0 < rb -> 0 < B -> B <= w.heap.size ->
    Calls Tryz.prog 151 #[.pointer (some ⟨rb, 0, none⟩), .int .i64 d, .func (.func 102) #[.pointer (some ⟨rb, 0, none⟩)] #[]] w fun e w' =>
      (∃ k ts st' r sv vs, go st s = some (.op k ts, st', r) /\ k < 13 /\ e = .returned (.tuple #[.int .i64 (k : Nat), sv]) /\ Rdr w' rb B r l st' /\ vs.length = Code.opOf k /\ w'.ownsRow w.heap.size 121 1 sv vs.length vs /\ RepTs w' w.heap.size true (LR st') vs ts /\ Kin w w' rb B) \/ (go st s = none /\ FailsK w rb B l 6 e w'))
  (hg : ∀ st s, g st s = match Code.cut [33] s with | some r => gf st r | none => if (Code.cut [40] s).isSome = true then go st s else Code.atomS Code.findS st s) : Reads 102 d g true LR := by
 intro rb B s l st w hr hs hsn ht hrb hB hBw
 have hmf : ∀ (fn : Fn) (first cap : Array Value) (w : World), (Instr.makeFunc fn first cap).run Tryz.prog w = .ok (.func fn first cap) w := fun _ _ _ _ => rfl
 have hgs := hg st s
 have HF := hide hF
 have HO := hide hO
 have HT := hide ht
 clear hg hF hO ht
 cases hc : Code.cut [33] s with
 | some r =>
  have lr := Code.cut_length hc
  have HG : Hid (g st s = gf st r) := by rw [hgs, hc]; exact rfl
  have HC := hide hc
  clear hc hgs
  go_enter Tryz.func102, Tryz.ntmps102
  go_wp2_with fail
  refine (skip_rdr rb B s [33] l st w hr hs (by simp)).mono ?_
  rw [HC.out]
  rintro e w1 ⟨rfl, hr1, hg1⟩
  have hk1 : Kin w w1 rb B := Kin.grown hg1
  have hz1 := hk1.size
  have hr1' : Rdr w1 rb B r l st := hr1
  clear hr1
  go_wp2_with fail
  refine (HF.out rb B r l st w1 hr1' (by omega) (by omega) (hk1.tab hrb hB HT.out) hrb hB (by omega)).mono ?_
  rintro e w2 (⟨t, st2, r2, v2, hcc, rfl, ⟨va, vb, rfl⟩, hr2, hrep, hk2⟩ | ⟨hcc, rfl, hk2⟩)
  ·have HCC : Hid (g st s = some (t, st2, r2)) := by rw [HG.out]; exact hcc
   have HREP := hide hrep
   clear hcc hrep
   go_wp2
   go_ret
   exact Or.inl ⟨t, st2, r2, _, HCC.out, rfl, hr2, RepT.kept (keeps_refl _ _) (by omega) (fun _ _ h => h) t _ HREP.out, hk1.trans hk2⟩
  ·go_wp2
   exact ⟨rfl, Or.inr ⟨by rw [HG.out]; exact hcc, rfl, hk1.trans hk2⟩⟩
 | none =>
  rw [hc] at hgs
  have HC := hide hc
  clear hc
  cases hc4 : (Code.cut [40] s).isSome with
  | true =>
   have HG : Hid (g st s = go st s) := by rw [hgs, hc4]; exact rfl
   have HC4 := hide hc4
   clear hc4 hgs
   go_enter Tryz.func102, Tryz.ntmps102
   go_wp2_with fail
   refine (skip_rdr rb B s [33] l st w hr hs (by simp)).mono ?_
   rw [HC.out]
   rintro e w1 ⟨rfl, hr1, hg1⟩
   have hk1 : Kin w w1 rb B := Kin.grown hg1
   have hz1 := hk1.size
   have hr1' : Rdr w1 rb B s l st := hr1
   clear hr1
   have c0 := hr1'.c0
   go_wp2_with fail
   refine (hasPrefix2_any s [40] w1 hs (by simp)).mono ?_
   rw [HC4.out]
   rintro e w1 ⟨rfl, rfl⟩
   go_wp2_with fail
   refine (HO.out rb B s l st w1 hr1' (by omega) (by omega) (hk1.tab hrb hB HT.out) hrb hB (by omega)).mono ?_
   rintro e w2 (⟨k, ts, st2, r2, sv, vs, hcc, hk13, rfl, hr2, hvl, hown, hts, hk2⟩ | ⟨hcc, rfl, hk2⟩)
   ·obtain ⟨sp, sc, rfl⟩ := own_slice hown
    have HCC : Hid (g st s = some (.op k ts, st2, r2)) := by rw [HG.out]; exact hcc
    have HREP : Hid (RepT w2 w1.heap.size true (LR st2) (.iface 271 (.agg #[.int .i64 (k : Nat), .slice sp vs.length sc])) (.op k ts)) := ⟨_, vs, rfl, hk13, hvl, hown, hts⟩
    clear hcc hown hts hvl
    go_wp2
    go_ret
    exact Or.inl ⟨.op k ts, st2, r2, _, HCC.out, rfl, hr2, RepT.kept (keeps_refl _ _) (by omega) (fun _ _ h => h) _ _ HREP.out, hk1.trans hk2⟩
   ·go_wp2
    exact ⟨rfl, Or.inr ⟨by rw [HG.out]; exact hcc, rfl, hk1.trans hk2⟩⟩
  | false =>
   have HG : Hid (g st s = Code.atomS Code.findS st s) := by rw [hgs, hc4]; exact rfl
   have HC4 := hide hc4
   clear hc4 hgs
   go_enter Tryz.func102, Tryz.ntmps102
   go_wp2_with fail
   refine (skip_rdr rb B s [33] l st w hr hs (by simp)).mono ?_
   rw [HC.out]
   rintro e w1 ⟨rfl, hr1, hg1⟩
   have hk1 : Kin w w1 rb B := Kin.grown hg1
   have hz1 := hk1.size
   have hr1' : Rdr w1 rb B s l st := hr1
   clear hr1
   have c0 := hr1'.c0
   go_wp2_with fail
   refine (hasPrefix2_any s [40] w1 hs (by simp)).mono ?_
   rw [HC4.out]
   rintro e w1 ⟨rfl, rfl⟩
   go_wp2_with fail
   refine (atom_any 153 (fun _ _ => Tryz.call153 _ _) Code.findS LR find_slots true rb B s l st w1 hr1' hs hsn (hk1.tab hrb hB HT.out) hrb hB (by omega)).mono ?_
   rintro e w2 (⟨t, st2, r2, v2, hcc, rfl, hr2, hrep, hk2⟩ | ⟨hcc, rfl, hk2⟩)
   ·obtain ⟨T2, x2, rfl⟩ := hrep.shape
    have HCC : Hid (g st s = some (t, st2, r2)) := by rw [HG.out]; exact hcc
    have HREP := hide hrep
    clear hcc hrep
    go_wp2
    go_ret
    exact Or.inl ⟨t, st2, r2, _, HCC.out, rfl, hr2, RepT.kept (keeps_refl _ _) (by omega) (fun _ _ h => h) t _ HREP.out, hk1.trans hk2⟩
   ·go_wp2
    exact ⟨rfl, Or.inr ⟨by rw [HG.out]; exact hcc, rfl, hk1.trans hk2⟩⟩
theorem res_reads : ∀ (k : Nat), k <= 4 -> Reads 102 (5 - (k : Int)) (Code.resS k) true LR
 | 0, _ => by
  refine result_of 5 (Code.resS 0) (fun _ _ => none) (fun _ _ => none) ?_ ?_ ?_
  ·intro rb B s l st w hr hs hsn ht hrb hB hBw
   refine (reckon_deep rb B s l st w hr hs ht hrb hB).mono ?_
   intro e w' h
   exact Or.inr ⟨rfl, h⟩
  ·intro rb B s l st w hr hs hsn ht hrb hB hBw
   refine (operResult_deep _ rb B s l st w hr hs ht hrb hB).mono ?_
   intro e w' h
   exact Or.inr ⟨rfl, h⟩
  ·intro st s
   simp only [Code.resS]
   cases Code.cut [33] s <;> simp
 | k + 1, hk => by
  have ih := res_reads k (by omega)
  have e5 : (5 - ((k + 1 : Nat) : Int)) + 1 = 5 - (k : Int) := by omega
  refine result_of _ (Code.resS (k + 1)) (Code.foldS (Code.resS k)) (Code.operS (Code.resS k) .op) ?_ ?_ ?_
  ·exact reckon_of _ (by omega) (by omega) (Code.resS k) (resS_tame k) (resS_still k) (by rw [e5]; exact known_of _ _ ih)
  ·intro rb B s l st w hr hs hsn ht hrb hB hBw
   refine (operResult_any 102 (fun _ _ => Tryz.call102 _ _) _ (by omega) (by omega) (Code.resS k) LR (by rw [e5]; exact ih) (fun st s t st' r h i p hp => LR.mono (resS_still k st s t st' r h) hp) (fun st s t st' r h => (resS_tame k st s t st' r h).2) rb B s l st w hr hs hsn ht hrb hB hBw).mono ?_
   rintro e w' (⟨k', ts, st1, r1, sv, vs, hc, h⟩ | ⟨hc, h⟩)
   ·exact Or.inl ⟨k', ts, st1, r1, sv, vs, by rw [operS_eq, hc]; rfl, h⟩
   ·exact Or.inr ⟨by rw [operS_eq, hc]; rfl, h⟩
  ·intro st s
   simp only [Code.resS]
   cases Code.cut [33] s <;> rfl
theorem result_any : Reads 102 1 (Code.resS 4) true LR := res_reads 4 (Nat.le_refl _)
namespace Code
mutual
theorem heavy_pos : ∀ t : RTree, 0 <= t.heavy
 | .name _ => by simp [RTree.heavy]
 | .hash _ => by simp [RTree.heavy]
 | .num _ => by simp [RTree.heavy]
 | .fold _ _ => by simp [RTree.heavy]
 | .op k kids => by
  have h1 := heavyAll_pos kids
  have h2 := (opW_range k).1
  simp only [RTree.heavy]; omega
theorem heavyAll_pos : ∀ l : List RTree, 0 <= heavyAll l
 | [] => by simp [heavyAll]
 | t :: l => by
  have h1 := heavy_pos t
  have h2 := heavyAll_pos l
  simp only [heavyAll]; omega
end
theorem heavyAll_app (a b : List RTree) : heavyAll (a ++ b) = heavyAll a + heavyAll b := by
 induction a with
 | nil => simp [heavyAll]
 | cons t a ih => simp only [List.cons_append, heavyAll, ih]; omega
theorem heavyAll_take (l : List RTree) (k : Nat) (h : k < l.length) : heavyAll (l.take (k + 1)) = heavyAll (l.take k) + (l[k]).heavy := by
 rw [List.take_add_one, List.getElem?_eq_getElem h, heavyAll_app]
 simp [heavyAll]
theorem heavyAll_le (l : List RTree) (k : Nat) : heavyAll (l.take k) <= heavyAll l := by
 have h : heavyAll l = heavyAll (l.take k) + heavyAll (l.drop k) := by rw [<- heavyAll_app, List.take_append_drop]
 have := heavyAll_pos (l.drop k)
 omega
end Code
theorem RepTs.get {w : World} {base : Nat} {res : Bool} {L : Int -> Nm -> Prop} : ∀ {vs : List Value} {ts : List RTree}, RepTs w base res L vs ts -> ∀ k (h : k < ts.length) (h' : k < vs.length), RepT w base res L vs[k] ts[k]
 | v :: vs, t :: ts, h, 0, _, _ => h.1
 | v :: vs, t :: ts, h, k + 1, h1, h2 => RepTs.get h.2 k (by simpa using h1) (by simpa using h2)
 | [], [], _, k, h, _ => by simp at h
 | [], _ :: _, h, _, _, _ => h.elim
 | _ :: _, [], h, _, _, _ => h.elim
theorem RepT.below {w w' : World} {base : Nat} {res : Bool} {L : Int -> Nm -> Prop} {v : Value} {t : RTree} (h : RepT w base res L v t) (hb : Below w.heap.size w w') : RepT w' base res L v t :=
 RepT.kept (fun b _ _ _ hc _ _ => (hb.block b (lt_of_block hc)).trans hc) (Nat.le_refl _) (fun _ _ h => h) t v h
theorem RepTs.below {w w' : World} {base : Nat} {res : Bool} {L : Int -> Nm -> Prop} {v : List Value} {t : List RTree} (h : RepTs w base res L v t) (hb : Below w.heap.size w w') : RepTs w' base res L v t :=
 RepTs.kept (fun b _ _ _ hc _ _ => (hb.block b (lt_of_block hc)).trans hc) (Nat.le_refl _) (fun _ _ h => h) t v h
def Weighs (t : RTree) : Prop := ∀ (v : Value) (base : Nat) (L : Int -> Nm -> Prop) (w : World), RepT w base true L v t -> Tab w -> t.heavy <= 100000 ->
 Calls Tryz.prog 154 #[v] w fun e w' => e = .returned (.int .i64 t.heavy) /\ Below w.heap.size w w'
theorem weighs_name (x : List UInt8) : Weighs (.name x) := by
 intro v base L w h ht hb
 obtain ⟨i, rfl, _⟩ := h
 have t1 := isNm_name (.agg #[.int .i64 i])
 go_enter Tryz.func154, Tryz.ntmps154
 go_wp2
 go_ret
 exact ⟨ret_int (by simp [RTree.heavy]), below_al (Below.refl _ _) _⟩
theorem weighs_hash (x : List UInt8) : Weighs (.hash x) := by
 intro v base L w h ht hb
 obtain ⟨i, rfl, _⟩ := h
 have t1 := isNm_hash (.agg #[.int .i64 i])
 have t2 := isMk_hash (.agg #[.int .i64 i])
 go_enter Tryz.func154, Tryz.ntmps154
 go_wp2
 go_ret
 exact ⟨ret_int (by simp [RTree.heavy]), Below.refl _ _⟩
theorem weighs_num (c : Int) : Weighs (.num c) := by
 intro v base L w h ht hb
 obtain ⟨rfl, _⟩ := h
 have t1 := isNm_num (.agg #[.int .i32 c])
 have t2 := isMk_num (.agg #[.int .i32 c])
 go_enter Tryz.func154, Tryz.ntmps154
 go_wp2
 go_ret
 exact ⟨ret_int (by simp [RTree.heavy]), Below.refl _ _⟩
theorem weighs_fold (k : Nat) (kids : List RTree) : Weighs (.fold k kids) := by
 intro v base L w h ht hb
 obtain ⟨sv, vs, rfl, _⟩ := h
 have t1 := isNm_rec (.agg #[.int .i64 (k : Nat), sv])
 have t2 := isMk_rec (.agg #[.int .i64 (k : Nat), sv])
 go_enter Tryz.func154, Tryz.ntmps154
 go_wp2
 go_ret
 exact ⟨ret_int (by simp [RTree.heavy]), Below.refl _ _⟩
theorem weighs_op (k : Nat) (kids : List RTree) (ih : ∀ t ∈ kids, Weighs t) : Weighs (.op k kids) := by
 intro v base L w h ht hb
 obtain ⟨sv, vs, rfl, hk13, hvl, hown, hts⟩ := h
 simp only [if_true] at *
 obtain ⟨sp, sc, rfl⟩ := own_slice hown
 have t1 := isNm_make (.agg #[.int .i64 (k : Nat), .slice sp vs.length sc])
 have t2 := isMk_make (.agg #[.int .i64 (k : Nat), .slice sp vs.length sc])
 have HT := hide ht
 have HIH := hide ih
 have HO := hide hown
 have HTS := hide hts
 have hlen : kids.length = vs.length := hts.length.symm
 have HLEN := hide hlen
 have hW := Code.opW_range k
 have hop := (Code.opOf_range k hk13).2
 rw [<- hvl] at hop
 clear hvl
 have hAll := Code.heavyAll_pos kids
 have hHv : Code.opW k + Code.heavyAll kids <= 100000 := by simpa [RTree.heavy] using hb
 have hcap : vs.length <= sc := own_cap hown
 clear ht ih hown hts hb hlen
 go_enter Tryz.func154, Tryz.ntmps154
 go_wp2_with fail
 generalize hw0 : w.alloc _ = w0
 have hb0 : Below w.heap.size w w0 := by rw [<- hw0]; exact below_al (Below.refl _ _) _
 have hn0 : w0.heap[w.heap.size]? = some (.cells #[.int .i64 (k : Nat), .slice sp vs.length sc] 271) := by rw [<- hw0]; exact heap_alloc_new w _
 clear hw0
 have c0 := blk_cell hn0 0 _ rfl
 have c1 := blk_cell hn0 1 _ rfl
 try go_wp2_with fail
 refine (opW_any k w0 hk13 (HT.out.below hb0)).mono ?_
 rintro e w0 ⟨rfl, rfl⟩
 go_wp2_with fail
 go_loopw [5, 21] (fun a i wr => ∃ j : Nat, j <= vs.length /\ i = .int .i64 j /\ a = .int .i64 (Code.opW k + Code.heavyAll (kids.take j)) /\ Below w.heap.size w wr) (fun _ i _ => vs.length - (intOf i).toNat)
 case atStart => exact ⟨0, by omega, rfl, by simp [Code.heavyAll], hb0⟩
 case round =>
  obtain ⟨j, hj, rfl, rfl, hbw⟩ := hrel
  have hr0 := Code.heavyAll_pos (kids.take j)
  have hr1 := Code.heavyAll_le kids j
  by_cases hlt : j < vs.length
  ·obtain ⟨g, cap, hge, hBg, hgl, hcell⟩ := row_open (own_below HO.out hbw) (by omega)
   simp only [Value.slice.injEq] at hge
   obtain ⟨rfl, _, rfl⟩ := hge
   have e0 := hcell j _ (List.getElem?_eq_getElem hlt)
   have hlk : j < kids.length := by rw [HLEN.out]; exact hlt
   have hrep := (HTS.out.below hbw).get j hlk hlt
   have hst := Code.heavyAll_take kids j hlk
   have hle2 := Code.heavyAll_le kids (j + 1)
   have hp := Code.heavy_pos kids[j]
   have HW := hide (HIH.out kids[j] (List.getElem_mem hlk) vs[j] base L wr hrep (HT.out.below hbw) (by omega))
   obtain ⟨T, x, hx⟩ := hrep.shape
   rw [hx] at e0 HW
   have hjl : (j : Int) < (vs.length : Int) := by omega
   clear hcell hrep
   generalize (kids[j]).heavy = hv at *
   generalize hS : Code.heavyAll (kids.take j) = S at *
   generalize hS1 : Code.heavyAll (kids.take (j + 1)) = S1 at *
   clear hx
   go_wp2_with fail
   refine (HW.out).mono ?_
   rintro e w4 ⟨rfl, hb4⟩
   have hbw4 := hbw.trans (hb4.mono hbw.size)
   go_wp2
   exact ⟨⟨j + 1, by omega, by go_num, by rw [hS1, hst]; congr 1; omega, hbw4⟩, by simp [intOf]; omega⟩
  ·have hjn : kids.take j = kids := List.take_of_length_le (by rw [HLEN.out]; omega)
   rw [hjn]
   clear hjn
   go_wp2
   go_ret
   exact ⟨ret_int (by simp [RTree.heavy]), hbw⟩
mutual
theorem weighs_any : ∀ t : RTree, Weighs t
 | .name x => weighs_name x
 | .hash x => weighs_hash x
 | .num c => weighs_num c
 | .fold k kids => weighs_fold k kids
 | .op k kids => weighs_op k kids (weighs_all kids)
theorem weighs_all : ∀ l : List RTree, ∀ t ∈ l, Weighs t
 | [] => fun _ h => by cases h
 | t :: l => fun x hx => (List.mem_cons.1 hx).elim (fun e => e ▸ weighs_any t) (fun h => weighs_all l x h)
end
def most : Nat -> Int
 | 0 => 20
 | d + 1 => 20 + 2 * most d
mutual
theorem heavy_most {w : World} {base : Nat} {L : Int -> Nm -> Prop} : ∀ (t : RTree) (v : Value) (d : Nat), RepT w base true L v t -> t.depth <= d -> t.heavy <= most d
 | .name _, _, d, _, _ => by simp only [RTree.heavy]; cases d <;> simp only [most] <;> (try have := most_pos ‹Nat›) <;> omega
 | .hash _, _, d, _, _ => by simp only [RTree.heavy]; cases d <;> simp only [most] <;> (try have := most_pos ‹Nat›) <;> omega
 | .num _, _, d, _, _ => by simp only [RTree.heavy]; cases d <;> simp only [most] <;> (try have := most_pos ‹Nat›) <;> omega
 | .fold _ _, _, d, _, _ => by simp only [RTree.heavy]; cases d <;> simp only [most] <;> (try have := most_pos ‹Nat›) <;> omega
 | .op k kids, v, 0, _, hd => by simp [RTree.depth] at hd
 | .op k kids, v, d + 1, h, hd => by
  obtain ⟨sv, vs, _, hk, hvl, _, hts⟩ := h
  have h1 := heavyAll_most kids vs d hts (by simpa [RTree.depth] using hd)
  have h2 := (Code.opW_range k).2
  have h3 := (Code.opOf_range k hk).2
  have h4 := hts.length
  have h5 := most_pos d
  have h6 : (kids.length : Int) * most d <= 2 * most d := Int.mul_le_mul_of_nonneg_right (by omega) h5
  simp only [RTree.heavy, most]
  omega
theorem heavyAll_most {w : World} {base : Nat} {L : Int -> Nm -> Prop} : ∀ (ts : List RTree) (vs : List Value) (d : Nat), RepTs w base true L vs ts -> Code.depthAll ts <= d -> Code.heavyAll ts <= ts.length * most d
 | [], _, d, _, _ => by simp [Code.heavyAll]
 | t :: ts, [], _, h, _ => h.elim
 | t :: ts, v :: vs, d, h, hd => by
  simp only [Code.depthAll] at hd
  have h1 := heavy_most t v d h.1 (by omega)
  have h2 := heavyAll_most ts vs d h.2 (by omega)
  simp only [Code.heavyAll, List.length_cons]
  have h3 : ((ts.length + 1 : Nat) : Int) * most d = ts.length * most d + most d := by
   rw [show ((ts.length + 1 : Nat) : Int) = (ts.length : Int) + 1 by omega, Int.add_mul, Int.one_mul]
  rw [h3]
  omega
theorem most_pos : ∀ d : Nat, 0 <= most d
 | 0 => by simp [most]
 | d + 1 => by have := most_pos d; simp only [most]; omega
end
end Go.Proofs.YtedkjanogjglkaaGreatDoor
