/-
  Parts of the proof: RStepP3, RPairs, RPick, KDigits, KBits, KReckon.
-/
import Derived.Test.YtedkjanogjglkaaGreatDoorP19
import Derived.Test.YtedkjanogjglkaaGreatDoorP01
set_option maxRecDepth 100000
set_option maxHeartbeats 8000000
namespace Go.Proofs.YtedkjanogjglkaaGreatDoor
open Go.Proofs.YtedkjanogjglkaaGreatDoor.Code (RTree Nm RSt Prs CRule)
namespace Code
structure Fine (bks : List Blk) : Prop where
 good : NiceB bks
 once : OnceN bks
theorem flat_sub : ∀ {bks : List Blk} {b : Blk}, b ∈ bks -> b.values.Sublist (bks.flatMap Blk.values)
 | a :: l, b, h => by
  rw [List.flatMap_cons]
  rcases List.mem_cons.1 h with h | h
  ·subst h; exact List.sublist_append_left _ _
  ·exact (flat_sub h).trans (List.sublist_append_right _ _)
theorem firstOf_lt {of : List Nat} {i n : Nat} (hn : n < 60) (ho : ∀ x ∈ of, x < 60) : ∀ x ∈ firstOf of i n, x < 60 := by
 unfold firstOf
 split
 ·intro x hx
  rcases List.mem_append.1 hx with hx | hx
  ·exact ho x hx
  ·simp only [List.mem_cons, List.not_mem_nil, or_false] at hx
   subst hx; exact hn
 ·exact ho
theorem Fine.short {bks : List Blk} (h : Fine bks) : ∀ b ∈ bks, b.values.length <= 60 := by
 intro b hb
 have h1 : (b.values.map Val.num).Nodup := List.Nodup.sublist ((flat_sub hb).map _) h.once
 have h2 := nodup_short (n := 60) h1 (fun x hx => by
  obtain ⟨v, hv, rfl⟩ := List.mem_map.1 hx
  exact (h.good.vals b hb v hv).1)
 simpa using h2
mutual
theorem cfits_lt {th : Nat -> Option Thing} (hok : ThOk th) (ns : List Nm) : ∀ (t : RTree) (n : Nat) (of of' : List Nat), n < 60 -> (∀ x ∈ of, x < 60) -> cfits th ns t n of = some of' -> ∀ x ∈ of', x < 60
 | .num c, n, of, of', _, ho, h => by
  simp only [cfits] at h
  split at h
  ·simp only [Option.some.injEq] at h; subst h; exact ho
  ·cases h
 | .name x, n, of, of', hn, ho, h => by
  simp only [cfits] at h
  split at h
  ·simp only [Option.some.injEq] at h; subst h; exact firstOf_lt hn ho
  ·cases h
 | .hash x, n, of, of', hn, ho, h => by
  simp only [cfits] at h
  split at h
  ·cases h
  ·split at h
   ·simp only [Option.some.injEq] at h; subst h; exact firstOf_lt hn ho
   ·cases h
 | .op k kids, n, of, of', hn, ho, h => by
  simp only [cfits] at h
  split at h
  ·rename_i j args hth
   split at h
   ·exact cfitsAll_lt hok ns kids args of of' (hok n _ hth).2.2 ho h
   ·cases h
  ·cases h
 | .fold _ _, n, of, of', _, _, h => by simp [cfits] at h
theorem cfitsAll_lt {th : Nat -> Option Thing} (hok : ThOk th) (ns : List Nm) : ∀ (l : List RTree) (args of of' : List Nat), (∀ x ∈ args, x < 60) -> (∀ x ∈ of, x < 60) -> cfitsAll th ns l args of = some of' -> ∀ x ∈ of', x < 60
 | [], args, of, of', _, ho, h => by
  simp only [cfitsAll, Option.some.injEq] at h; subst h; exact ho
 | _ :: _, [], of, of', _, _, h => by simp [cfitsAll] at h
 | t :: l, n :: args, of, of', ha, ho, h => by
  simp only [cfitsAll, Option.bind_eq_some_iff] at h
  obtain ⟨o1, h1, h2⟩ := h
  exact cfitsAll_lt hok ns l args o1 of' (fun x hx => ha x (by simp [hx])) (cfits_lt hok ns t n of o1 (ha n (by simp)) ho h1) h2
end
theorem lookK_mem {ns : List Nm} {of : List Nat} {w : List UInt8} {v : Nat} (h : lookK (knOf ns of) w = some v) : v ∈ of := by
 unfold lookK at h
 simp only [Option.map_eq_some_iff] at h
 obtain ⟨q, hq, rfl⟩ := h
 have := List.mem_of_find?_eq_some hq
 exact (List.of_mem_zip this).2
theorem knownV_lt {ns : List Nm} {of : List Nat} (h : ∀ x ∈ of, x < 60) (w : List UInt8) : knownV (knOf ns of) w < 60 := by
 unfold knownV
 cases hl : lookK (knOf ns of) w with
 | none => simp
 | some v => exact h v (lookK_mem hl)
theorem things_none {bks : List Blk} {n : Nat} (h : things bks n = none) : n ∉ (bks.flatMap Blk.values).map Val.num := by
 intro hm
 obtain ⟨v, hv, rfl⟩ := List.mem_map.1 hm
 unfold things at h
 rw [Option.map_eq_none_iff, List.find?_eq_none] at h
 exact h v hv (by simp)
theorem things_thOk {bks : List Blk} (h : Fine bks) : ThOk (things bks) := by
 rw [<- thOf_things h.once]
 exact h.good.thOk
def stepI (bks : List Blk) (p : Pair) (num : Nat) (kn : Known) : List Blk := match p.rule.result with
 | .name w => renB num (knownV kn w) (putB p.block p.index [] bks)
 | t => putB p.block p.index ((mkThing (things bks) kn t ⟨[], 0⟩).2.made ++ [⟨num, (mkThing (things bks) kn t ⟨[], 0⟩).1⟩]) bks
def noRoom (bks : List Blk) (p : Pair) (kn : Known) : Prop := (∀ w, p.rule.result ≠ .name w) /\ 60 < (mkThing (things bks) kn p.rule.result ⟨[], 0⟩).2.next
theorem stepB1_room {bks : List Blk} {p : Pair} {num : Nat} {kn : Known} (h : noRoom bks p kn) : stepB1 bks p num kn = none := by
 unfold stepB1
 split
 ·rename_i w hw
  exact absurd hw (h.1 w)
 ·rw [if_pos h.2]
theorem stepB1_is {bks : List Blk} {p : Pair} {num : Nat} {kn : Known} (h : ¬ noRoom bks p kn) : stepB1 bks p num kn = some (sweep (stepI bks p num kn)) := by
 unfold stepB1 stepI
 split
 ·rename_i w hw
  rw [hw]
 ·rename_i t hw
  rw [if_neg (fun hlt => h ⟨hw, hlt⟩)]
  cases hr : p.rule.result with
  | name w => exact absurd hr (hw w)
  | _ => rfl
theorem stepI_fine {bks : List Blk} (h : Fine bks) {p : Pair} {b : Blk} {v : Val} {kn : Known} (hR : p.rule.result.fine) (hb : bks[p.block]? = some b) (hv : b.values[p.index]? = some v) (hk : ∀ w, knownV kn w < 60) (hn : ¬ noRoom bks p kn) : Fine (stepI bks p v.num kn) := by
 have hbm := List.mem_of_getElem? hb
 have hvm := List.mem_of_getElem? hv
 have hsh : ∀ b ∈ bks, b.values.length <= 900 := fun b hb => Nat.le_trans (h.short b hb) (by omega)
 obtain ⟨A, B, hall, hput⟩ := putB_parts hb hv
 have honce := h.once
 unfold OnceN at honce
 rw [hall, List.map_append, List.map_cons] at honce
 unfold stepI
 split
 ·rename_i w hw
  refine ⟨renB_good (hk w) (putB_good h.good (by simp) (by simp) hsh), ?_⟩
  unfold OnceN
  rw [renB_nums, hput, List.map_append, List.map_append]
  exact nodup_put honce (by simp) (by simp)
 ·rename_i hw
  have hlt : (mkThing (things bks) kn p.rule.result ⟨[], 0⟩).2.next <= 60 := Nat.not_lt.1 fun hl => hn ⟨hw, hl⟩
  obtain ⟨i1, _, i3⟩ := mkThing_inv (things_thOk h) kn p.rule.result hw ⟨[], 0⟩ hR (fun q _ => hk q.1) (MkInv.nil _)
  generalize mkThing (things bks) kn p.rule.result ⟨[], 0⟩ = M at *
  have hlen : M.2.made.length <= 60 := by
   have := nodup_short (n := 60) i1.once (fun x hx => by
    obtain ⟨u, hu, rfl⟩ := List.mem_map.1 hx
    have := i1.low u hu
    omega)
   simpa using this
  refine ⟨putB_good h.good (fun u hu => ?_) (by simp; omega) hsh, ?_⟩
  ·rcases List.mem_append.1 hu with hu | hu
   ·have := i1.low u hu
    exact ⟨by omega, (i1.made u hu).good hlt⟩
   ·simp only [List.mem_cons, List.not_mem_nil, or_false] at hu
    subst hu
    exact ⟨(h.good.vals b hbm v hvm).1, i3.good hlt⟩
  ·unfold OnceN
   rw [hput, List.map_append, List.map_append]
   have hnew : ∀ n ∈ M.2.made.map Val.num, n ∉ A.map Val.num ++ v.num :: B.map Val.num := by
    intro n hm
    obtain ⟨u, hu, rfl⟩ := List.mem_map.1 hm
    have h60 : u.num < 60 := by have := i1.low u hu; omega
    have := things_none (i1.new u hu h60)
    rw [hall, List.map_append, List.map_cons] at this
    exact this
   refine nodup_put honce ?_ ?_
   ·simp only [List.map_append, List.map_cons, List.map_nil]
    rw [List.nodup_append]
    refine ⟨i1.once, by simp, fun a ha c hc e => ?_⟩
    simp only [List.mem_cons, List.not_mem_nil, or_false] at hc
    subst e hc
    exact hnew _ ha (by simp)
   ·intro n hm
    simp only [List.map_append, List.map_cons, List.map_nil, List.mem_append, List.mem_cons, List.not_mem_nil, or_false] at hm
    rcases hm with hm | hm
    ·exact Or.inr (hnew n hm)
    ·exact Or.inl hm
theorem Fine.sweep {bks : List Blk} (h : Fine bks) : Fine (Code.sweep bks) := ⟨h.good.sub (SubB.sweep bks), h.once.sub (SubB.sweep bks)⟩
def stepR (args : Nat) (bks : List Blk) (p : Pair) : Option (List Blk) :=
 (bks[p.block]?.bind fun b => b.values[p.index]?).bind fun v => (fits (things bks) p.rule.node v.num []).bind fun kn => (stepB1 bks p v.num kn).filter fun n => decide ((wrF args n).length <= 1500)
inductive RewS (args : Nat) (rules : List CRule) (picks : List Int) : Nat -> List Blk -> List Blk -> Nat -> Int -> Prop
 | done {k : Nat} {bks : List Blk} : pairs rules bks = [] -> RewS args rules picks k bks bks k 0
 | room {k : Nat} {bks : List Blk} {p : Pair} : (pairs rules bks)[pickN picks k (pairs rules bks).length]? = some p -> stepR args bks p = none -> RewS args rules picks k bks bks k 9
 | next {k : Nat} {bks n out : List Blk} {p : Pair} {m : Nat} {e : Int} : (pairs rules bks)[pickN picks k (pairs rules bks).length]? = some p -> stepR args bks p = some n -> RewS args rules picks (k + 1) n out m e -> RewS args rules picks k bks out m e
theorem stepR_fine {args : Nat} {bks n : List Blk} {p : Pair} (h : Fine bks) (hR : RuleOk p.rule) (hs : stepR args bks p = some n) : Fine n := by
 unfold stepR at hs
 simp only [Option.bind_eq_some_iff, Option.filter_eq_some_iff] at hs
 obtain ⟨v, ⟨b, hb, hv⟩, kn, hkn, hst, _⟩ := hs
 have hv60 : v.num < 60 := (h.good.vals b (List.mem_of_getElem? hb) v (List.mem_of_getElem? hv)).1
 have hk : ∀ w, knownV kn w < 60 := by
  intro w
  rw [hR.fits, Option.map_eq_some_iff] at hkn
  obtain ⟨of, hof, rfl⟩ := hkn
  exact knownV_lt (cfits_lt (things_thOk h) _ _ _ _ _ hv60 (by simp) hof) w
 by_cases hn : noRoom bks p kn
 ·rw [stepB1_room hn] at hst; cases hst
 ·rw [stepB1_is hn, Option.some.injEq] at hst
  subst hst
  exact (stepI_fine h hR.fineR hb hv hk hn).sweep
end Code
open Go.RowKit
open Go.Proofs.YtedkjanogjglkaaGreatDoor.Code (RTree Nm RSt Prs CRule Pair)
theorem infoPair : (Tryz.prog.info? 151).map (fun i => (i.zero, i.size, i.bytes)) = some (some (.agg #[.int .i64 0, .int .i64 0, .int .i64 0, .slice none 0 0, .nilIface]), 5, 64) := by kernel_rfl
theorem newTh (w5 : World) (tv : List Value) (h : tv.length = 60) : thRow ((w5.alloc (.cells #[.nilIface, .nilIface, .nilIface, .nilIface, .nilIface, .nilIface, .nilIface, .nilIface, .nilIface, .nilIface, .nilIface, .nilIface, .nilIface, .nilIface, .nilIface, .nilIface, .nilIface, .nilIface, .nilIface, .nilIface, .nilIface, .nilIface, .nilIface, .nilIface, .nilIface, .nilIface, .nilIface, .nilIface, .nilIface, .nilIface, .nilIface, .nilIface, .nilIface, .nilIface, .nilIface, .nilIface, .nilIface, .nilIface, .nilIface, .nilIface, .nilIface, .nilIface, .nilIface, .nilIface, .nilIface, .nilIface, .nilIface, .nilIface, .nilIface, .nilIface, .nilIface, .nilIface, .nilIface, .nilIface, .nilIface, .nilIface, .nilIface, .nilIface, .nilIface, .nilIface] 216)).setCells w5.heap.size 0 tv) w5.heap.size tv := by
 have h0 : thRow (w5.alloc (.cells #[.nilIface, .nilIface, .nilIface, .nilIface, .nilIface, .nilIface, .nilIface, .nilIface, .nilIface, .nilIface, .nilIface, .nilIface, .nilIface, .nilIface, .nilIface, .nilIface, .nilIface, .nilIface, .nilIface, .nilIface, .nilIface, .nilIface, .nilIface, .nilIface, .nilIface, .nilIface, .nilIface, .nilIface, .nilIface, .nilIface, .nilIface, .nilIface, .nilIface, .nilIface, .nilIface, .nilIface, .nilIface, .nilIface, .nilIface, .nilIface, .nilIface, .nilIface, .nilIface, .nilIface, .nilIface, .nilIface, .nilIface, .nilIface, .nilIface, .nilIface, .nilIface, .nilIface, .nilIface, .nilIface, .nilIface, .nilIface, .nilIface, .nilIface, .nilIface, .nilIface] 216)) w5.heap.size noThings := heap_alloc_new w5 _
 exact h0.put tv (by rw [h]; rfl)
theorem newThThere (w5 : World) : (w5.alloc (.cells #[.nilIface, .nilIface, .nilIface, .nilIface, .nilIface, .nilIface, .nilIface, .nilIface, .nilIface, .nilIface, .nilIface, .nilIface, .nilIface, .nilIface, .nilIface, .nilIface, .nilIface, .nilIface, .nilIface, .nilIface, .nilIface, .nilIface, .nilIface, .nilIface, .nilIface, .nilIface, .nilIface, .nilIface, .nilIface, .nilIface, .nilIface, .nilIface, .nilIface, .nilIface, .nilIface, .nilIface, .nilIface, .nilIface, .nilIface, .nilIface, .nilIface, .nilIface, .nilIface, .nilIface, .nilIface, .nilIface, .nilIface, .nilIface, .nilIface, .nilIface, .nilIface, .nilIface, .nilIface, .nilIface, .nilIface, .nilIface, .nilIface, .nilIface, .nilIface, .nilIface] 216)).there w5.heap.size 0 60 := by
 have h0 : thRow (w5.alloc (.cells #[.nilIface, .nilIface, .nilIface, .nilIface, .nilIface, .nilIface, .nilIface, .nilIface, .nilIface, .nilIface, .nilIface, .nilIface, .nilIface, .nilIface, .nilIface, .nilIface, .nilIface, .nilIface, .nilIface, .nilIface, .nilIface, .nilIface, .nilIface, .nilIface, .nilIface, .nilIface, .nilIface, .nilIface, .nilIface, .nilIface, .nilIface, .nilIface, .nilIface, .nilIface, .nilIface, .nilIface, .nilIface, .nilIface, .nilIface, .nilIface, .nilIface, .nilIface, .nilIface, .nilIface, .nilIface, .nilIface, .nilIface, .nilIface, .nilIface, .nilIface, .nilIface, .nilIface, .nilIface, .nilIface, .nilIface, .nilIface, .nilIface, .nilIface, .nilIface, .nilIface] 216)) w5.heap.size noThings := heap_alloc_new w5 _
 exact h0.there
def PairCs (w : World) (cs : List Value) (ps : List Pair) : Prop := ∀ i (h : i < ps.length), ∃ k sv rv, cs[i * 5]? = some (.int .i64 (ps[i].block : Nat)) /\ cs[i * 5 + 1]? = some (.int .i64 (ps[i].index : Nat)) /\ cs[i * 5 + 2]? = some (.int .i64 (k : Nat)) /\ cs[i * 5 + 3]? = some sv /\ cs[i * 5 + 4]? = some rv /\ RepR w 0 ps[i].rule k sv rv
theorem PairCs.snoc {w : World} {cs : List Value} {ps : List Pair} (h : PairCs w cs ps) (hl : cs.length = ps.length * 5) {p : Pair} {k : Nat} {sv rv : Value} (hr : RepR w 0 p.rule k sv rv) : PairCs w (cs ++ [.int .i64 (p.block : Nat), .int .i64 (p.index : Nat), .int .i64 (k : Nat), sv, rv]) (ps ++ [p]) := by
 intro i hi
 by_cases hlt : i < ps.length
 ·obtain ⟨k', sv', rv', a, b, c, d, e, f⟩ := h i hlt
  refine ⟨k', sv', rv', ?_, ?_, ?_, ?_, ?_, ?_⟩
  ·rw [List.getElem?_append_left (by omega), List.getElem_append_left hlt]; exact a
  ·rw [List.getElem?_append_left (by omega), List.getElem_append_left hlt]; exact b
  ·rw [List.getElem?_append_left (by omega)]; exact c
  ·rw [List.getElem?_append_left (by omega)]; exact d
  ·rw [List.getElem?_append_left (by omega)]; exact e
  ·rw [List.getElem_append_left hlt]; exact f
 ·have hi' : i = ps.length := by simp at hi; omega
  subst hi'
  have e : (ps ++ [p])[ps.length] = p := by simp
  rw [e]
  refine ⟨k, sv, rv, ?_, ?_, ?_, ?_, ?_, hr⟩
  ·rw [List.getElem?_append_right (by omega), hl]; simp
  ·rw [List.getElem?_append_right (by omega), hl, show ps.length * 5 + 1 - ps.length * 5 = 1 by omega]; rfl
  ·rw [List.getElem?_append_right (by omega), hl, show ps.length * 5 + 2 - ps.length * 5 = 2 by omega]; rfl
  ·rw [List.getElem?_append_right (by omega), hl, show ps.length * 5 + 3 - ps.length * 5 = 3 by omega]; rfl
  ·rw [List.getElem?_append_right (by omega), hl, show ps.length * 5 + 4 - ps.length * 5 = 4 by omega]; rfl
def ApIn (w w0 wr : World) (tb : Nat) (tv : List Value) (pv : Value) (ps : List Pair) : Prop := (∃ cs, wr.ownsRow w0.heap.size 151 5 pv ps.length cs /\ PairCs w cs ps) /\ thRow wr tb tv /\ Below w0.heap.size w0 wr
theorem ApIn.below {w w0 wr w2 : World} {tb : Nat} {tv : List Value} {pv : Value} {ps : List Pair} (h : ApIn w w0 wr tb tv pv ps) (hb : Below wr.heap.size wr w2) : ApIn w w0 w2 tb tv pv ps := by
 obtain ⟨⟨cs, h1, h2⟩, h3, h4⟩ := h
 exact ⟨⟨cs, own_below h1 hb, h2⟩, (hb.block _ (lt_of_block h3)).trans h3, h4.trans (hb.mono h4.size)⟩
structure RuleIn (R : CRule) : Prop where
 ok : Code.RuleOk R
 few : R.names.length <= 6000
theorem allPairs_any (args : Nat) (bks : List Code.Blk) (rules : List CRule) (rsv : Value) (p : Option Addr) (c : Nat) (w : World) (hr : RepRules w 0 rsv rules) (hrl : rules.length <= 3000) (hR : ∀ R ∈ rules, RuleIn R) (hf : RepBlks w 0 (.slice p bks.length c) bks) (hg : Code.NiceB bks) :
  Calls Tryz.prog 76 #[rsv, .agg #[.int .i64 (args : Nat), .slice p bks.length c]] w fun e w' => ∃ pv cs, e = .returned pv /\ w'.ownsRow 0 151 5 pv (Code.pairsC rules bks).length cs /\ PairCs w cs (Code.pairsC rules bks) /\ Below w.heap.size w w' := by
 obtain ⟨i0, hi, hz0, hz1, hz2⟩ := info_parts infoPair
 have HTH : Hid (∀ w1, Below w.heap.size w w1 -> Calls Tryz.prog 124 #[.agg #[.int .i64 (args : Nat), .slice p bks.length c]] w1 fun e w' => ∃ tv, e = .returned (.agg tv.toArray) /\ ThsV w1 (Code.lastThing (bks.flatMap Code.Blk.values)) tv /\ Below w1.heap.size w1 w') := hide fun w1 h1 => things_any args bks p c w1 (hf.below h1) ⟨hg.few, fun b hb => Nat.le_trans (hg.short b hb) (by omega), fun b hb v hv => (hg.vals b hb v hv).1⟩
 have HG := hide hg
 have HOK := hide hg.thOk
 have HR := hide hR
 have hn := hg.few
 have hfit : ∀ (v : Code.Val) (R : CRule), Code.fitC bks v R = Code.cfits (Code.lastThing (bks.flatMap Code.Blk.values)) R.names R.node v.num [] := fun _ _ => rfl
 have hok' : ThOk (Code.lastThing (bks.flatMap Code.Blk.values)) := hg.thOk
 have HFIT := hide hfit
 have HOK' := hide hok'
 obtain ⟨rcs, hrown, hrcs⟩ := hr
 have HRCS := hide hrcs
 have HROWN := hide hrown
 obtain ⟨rp, rc, rfl⟩ := own_slice hrown
 obtain ⟨p', c', hpe, hblk⟩ := hf.open
 simp only [Value.slice.injEq] at hpe
 obtain ⟨rfl, _, rfl⟩ := hpe
 have HBLK := hide hblk
 unfold Code.pairsC
 generalize hF : (fun v r => (Code.fitC bks v r).isSome) = F at *
 have HF : Hid (∀ v R, F v R = (Code.cfits (Code.lastThing (bks.flatMap Code.Blk.values)) R.names R.node v.num []).isSome) := hide fun v R => by rw [<- hF]; rfl
 generalize Code.lastThing (bks.flatMap Code.Blk.values) = th at *
 clear hblk hf hg hR hF hfit hok' hrown hrcs HFIT HOK
 go_enter Tryz.func76, Tryz.ntmps76
 go_wp2_with fail
 generalize hw0 : w.alloc _ = w0
 have hb0 : Below w.heap.size w w0 := by rw [<- hw0]; exact below_al (Below.refl _ _) _
 have hx0 : w0.heap[w.heap.size]? = some (.cells #[.int .i64 (args : Nat), .slice p bks.length c] 78) := by rw [<- hw0]; exact heap_alloc_new w _
 clear hw0
 refine (HTH.out w0 hb0).mono ?_
 rintro e w1 ⟨tv, rfl, htv, hb1⟩
 have hx1 := (hb1.block _ (lt_of_block hx0)).trans hx0
 have hbw1 : Below w.heap.size w w1 := hb0.trans (hb1.mono hb0.size)
 have HTV := hide htv
 have hl60 := htv.1
 have HS' := hide (thSize' tv hl60)
 have HO := hide htv.ones
 have hlx := lt_of_block hx1
 obtain ⟨w2, hW2⟩ : ∃ w2, w2 = (w1.alloc (.cells #[.nilIface, .nilIface, .nilIface, .nilIface, .nilIface, .nilIface, .nilIface, .nilIface, .nilIface, .nilIface, .nilIface, .nilIface, .nilIface, .nilIface, .nilIface, .nilIface, .nilIface, .nilIface, .nilIface, .nilIface, .nilIface, .nilIface, .nilIface, .nilIface, .nilIface, .nilIface, .nilIface, .nilIface, .nilIface, .nilIface, .nilIface, .nilIface, .nilIface, .nilIface, .nilIface, .nilIface, .nilIface, .nilIface, .nilIface, .nilIface, .nilIface, .nilIface, .nilIface, .nilIface, .nilIface, .nilIface, .nilIface, .nilIface, .nilIface, .nilIface, .nilIface, .nilIface, .nilIface, .nilIface, .nilIface, .nilIface, .nilIface, .nilIface, .nilIface, .nilIface] 216)).setCells w1.heap.size 0 tv.toArray.toList := ⟨_, rfl⟩
 have hs2 : thRow w2 w1.heap.size tv := by rw [hW2]; exact newTh w1 tv hl60
 have hb2 : Below w.heap.size w w2 := by rw [hW2]; exact below_cells (below_al hbw1 _) hbw1.size _ _
 have hb02 : Below w0.heap.size w0 w2 := by rw [hW2]; exact below_cells (below_al hb1 _) hb1.size _ _
 have hx2 : w2.heap[w.heap.size]? = some (.cells #[.int .i64 (args : Nat), .slice p bks.length c] 78) := by rw [hW2]; exact stay_cells (stay_alloc hx1) (by omega)
 have HW2 : Hid ((w1.alloc (.cells #[.nilIface, .nilIface, .nilIface, .nilIface, .nilIface, .nilIface, .nilIface, .nilIface, .nilIface, .nilIface, .nilIface, .nilIface, .nilIface, .nilIface, .nilIface, .nilIface, .nilIface, .nilIface, .nilIface, .nilIface, .nilIface, .nilIface, .nilIface, .nilIface, .nilIface, .nilIface, .nilIface, .nilIface, .nilIface, .nilIface, .nilIface, .nilIface, .nilIface, .nilIface, .nilIface, .nilIface, .nilIface, .nilIface, .nilIface, .nilIface, .nilIface, .nilIface, .nilIface, .nilIface, .nilIface, .nilIface, .nilIface, .nilIface, .nilIface, .nilIface, .nilIface, .nilIface, .nilIface, .nilIface, .nilIface, .nilIface, .nilIface, .nilIface, .nilIface, .nilIface] 216)).setCells w1.heap.size 0 tv.toArray.toList = w2) := hide hW2.symm
 have HTHR : Hid ((w1.alloc (.cells #[.nilIface, .nilIface, .nilIface, .nilIface, .nilIface, .nilIface, .nilIface, .nilIface, .nilIface, .nilIface, .nilIface, .nilIface, .nilIface, .nilIface, .nilIface, .nilIface, .nilIface, .nilIface, .nilIface, .nilIface, .nilIface, .nilIface, .nilIface, .nilIface, .nilIface, .nilIface, .nilIface, .nilIface, .nilIface, .nilIface, .nilIface, .nilIface, .nilIface, .nilIface, .nilIface, .nilIface, .nilIface, .nilIface, .nilIface, .nilIface, .nilIface, .nilIface, .nilIface, .nilIface, .nilIface, .nilIface, .nilIface, .nilIface, .nilIface, .nilIface, .nilIface, .nilIface, .nilIface, .nilIface, .nilIface, .nilIface, .nilIface, .nilIface, .nilIface, .nilIface] 216)).there w1.heap.size 0 tv.toArray.size) := by
  have h := newThThere w1
  rw [show 60 = tv.toArray.size by simp [hl60]] at h
  exact h
 have q1 := blk_cell hx2 1 _ rfl
 clear hW2 htv
 go_wp2_with (first | (refine wpList_store_mid rfl 216 _ _ rfl w1.heap.size 0 tv.toArray rfl rfl HTHR.out HS'.out HO.out ?_; rw [HW2.out]))
 have hap : ApIn w w0 w2 w1.heap.size tv (.slice none 0 0) [] := ⟨⟨[], World.ownsRow_nil _ _ _ _, fun i h => by simp at h⟩, hs2, hb02⟩
 have HTW : Hid (∀ w3, Below w0.heap.size w0 w3 -> ThsV w3 th tv) := hide fun w3 h3 => HTV.out.below h3
 have HB0 : Hid (∀ w3, Below w0.heap.size w0 w3 -> Below w.heap.size w w3) := hide fun w3 h3 => hb0.trans (h3.mono hb0.size)
 generalize w1.heap.size = tb at *
 clear hb02 hb0 hx0 hb1 hx1 hbw1 hs2 hx2 HW2 HTHR q1 HS' HO HTV HTH hlx hb2
 go_loopw [5, 20] (fun pv i wr => ∃ (j : Nat) (ps : List Pair), j <= bks.length /\ i = .int .i64 j /\ ps.length <= j * 3000000 /\ Hid (ps = Code.blkPairs F rules 0 (bks.take j)) /\ ApIn w w0 wr tb tv pv ps) (fun _ i _ => bks.length - (intOf i).toNat)
 case atStart => exact ⟨0, [], by omega, rfl, by simp, hide rfl, hap⟩
 case round =>
  obtain ⟨j, ps, hj, rfl, hpl, hps, hin⟩ := hrel
  clear hap
  by_cases hlt : j < bks.length
  ·obtain ⟨g, vs, rfl, hg, c0, c1, hvs⟩ := HBLK.out j hlt
   have hvl := HG.out.short bks[j] (List.getElem_mem hlt)
   have HGV := hide (HG.out.vals bks[j] (List.getElem_mem hlt))
   have HST := hide (Code.blkPairs_take F rules (List.getElem?_eq_getElem hlt))
   obtain ⟨pv', cv, rfl, hval⟩ := hvs.open
   have hbw := HB0.out _ hin.2.2
   have c0' := bcell' hbw g _ hg _ c0
   obtain ⟨T, zv, hzv⟩ := lastV_shape bks[j].last
   rw [hzv] at c1
   have c1' := bcell' hbw g _ hg _ c1
   generalize bks[j].values = vals at *
   have HV := hide hval
   clear hval c0 c1 hvs hzv
   have HIN := hide hin
   obtain ⟨⟨cs0, hcs0, _⟩, _, _⟩ := hin
   obtain ⟨p0, cp0, rfl⟩ := own_slice hcs0
   clear hcs0
   rename World => wo
   go_wp2_with fail
   have hin3 := HIN.out.below (below_al (Below.refl _ _) (.cells #[.slice pv' vals.length cv, .iface T zv] 165))
   generalize wo.alloc (.cells #[.slice pv' vals.length cv, .iface T zv] 165) = w3 at *
   clear c0' c1' HIN hbw
   go_loopw [5, 28] (fun pv i wr => ∃ (k : Nat) (qs : List Pair), k <= vals.length /\ i = .int .i64 k /\ qs.length <= j * 3000000 + k * 3000 /\ Hid (qs = ps ++ Code.valPairs F rules j 0 (vals.take k)) /\ ApIn w w0 wr tb tv pv qs) (fun _ i _ => vals.length - (intOf i).toNat)
   case atStart => exact ⟨0, ps, by omega, rfl, Nat.le_trans hpl (Nat.le_add_right _ _), hide (by simp [Code.valPairs]), hin3⟩
   case round =>
    obtain ⟨k, qs, hk, rfl, hql, hqs, hin⟩ := hrel
    clear hin3
    by_cases hkt : k < vals.length
    ·obtain ⟨g2, tth, rfl, hg2, d0, d1, hth⟩ := HV.out k hkt
     have hbw := HB0.out _ hin.2.2
     have d0' := bcell' hbw g2 _ hg2 _ d0
     have d1' := bcell' hbw g2 _ hg2 _ d1
     have hx60 := (HGV.out vals[k] (List.getElem_mem hkt)).1
     have HSV := hide (Code.valPairs_take F rules j (List.getElem?_eq_getElem hkt))
     obtain ⟨T', tv', rfl⟩ := hth.shape
     have HFV : Hid (∀ R, F vals[k] R = (Code.cfits th R.names R.node vals[k].num []).isSome) := hide (HF.out vals[k])
     generalize vals[k] = v at *
     clear d0 d1 hth
     have HIN := hide hin
     obtain ⟨⟨cs0, hcs0, _⟩, _, _⟩ := hin
     obtain ⟨p1, cp1, rfl⟩ := own_slice hcs0
     clear hcs0
     rename World => wq
     go_wp2_with fail
     have hin4 := HIN.out.below (below_al (Below.refl _ _) (.cells #[.int .i64 (v.num : Nat), .iface T' tv'] 169))
     have hgv4 := heap_alloc_new wq (.cells #[.int .i64 (v.num : Nat), .iface T' tv'] 169)
     generalize wq.alloc (.cells #[.int .i64 (v.num : Nat), .iface T' tv'] 169) = w4 at *
     generalize wq.heap.size = gv at *
     clear d0' d1' HIN hbw
     go_loopw [5, 35] (fun pv i wr => ∃ (m : Nat) (rs : List Pair), m <= rules.length /\ i = .int .i64 m /\ rs.length <= j * 3000000 + k * 3000 + m /\ Hid (rs = qs ++ Code.rowPairs (F v) j k (rules.take m)) /\ ApIn w w0 wr tb tv pv rs /\ wr.heap[gv]? = some (.cells #[.int .i64 (v.num : Nat), .iface T' tv'] 169)) (fun _ i _ => rules.length - (intOf i).toNat)
     case atStart => exact ⟨0, qs, by omega, rfl, Nat.le_trans hql (Nat.le_add_right _ _), hide (by simp [Code.rowPairs]), hin4, hgv4⟩
     case round =>
      obtain ⟨m, rs, hm, rfl, hrl', hrs, hin, hgv⟩ := hrel
      clear hin4 hgv4
      by_cases hmt : m < rules.length
      ·obtain ⟨rk, rsv, rrv, e0, e1, e2, hrep⟩ := HRCS.out m hmt
       obtain ⟨gr, cap', hv', _, hgr, hrc⟩ := row_open HROWN.out (by omega)
       simp only [Value.slice.injEq] at hv'
       obtain ⟨rfl, _, rfl⟩ := hv'
       have hbw := HB0.out _ hin.2.2
       have r0 := bcell' hbw gr _ hgr _ (hrc _ _ e0)
       have r1 := bcell' hbw gr _ hgr _ (hrc _ _ e1)
       have r2 := bcell' hbw gr _ hgr _ (hrc _ _ e2)
       obtain ⟨T2, x2, rfl⟩ := hrep.2.1.shape
       obtain ⟨k', kids', hnode, hke, _, sp, sn, sc, rfl⟩ := hrep.1.op_eq
       have hRin := HR.out rules[m] (List.getElem_mem hmt)
       have HFT : Hid (∀ w1, Below w0.heap.size w0 w1 -> thRow w1 tb tv -> Calls Tryz.prog 125 #[.agg #[.int .i64 (rk : Nat), .slice sp sn sc, .iface T2 x2], .pointer (some ⟨tb, 0, none⟩), .int .i64 (v.num : Nat)] w1 fun e w' => FittedPost (Code.cfits th rules[m].names rules[m].node v.num []) rules[m].names.length tb w1 e w') := hide fun w1 h1 ht => fitted_any th tb rules[m] rk _ _ v.num rules[m].names.length 0 w1 ⟨tv, ht, hl60, (HTW.out w1 h1).2⟩ HOK'.out hRin.ok.dist (hrep.kept (keeps_below (HB0.out w1 h1)) (Nat.le_refl _)) hRin.ok.trav hRin.few hx60 ⟨_, _, rfl⟩
       have HFS := hide (HFV.out rules[m])
       have HRT := hide (Code.rowPairs_take (F v) j k (List.getElem?_eq_getElem hmt))
       have HREP := hide hrep
       generalize rules[m] = R at *
       generalize Code.cfits th R.names R.node v.num [] = o at *
       generalize v.num = x at *
       have HIN := hide hin
       obtain ⟨⟨cs0, hcs0, _⟩, _, _⟩ := hin
       obtain ⟨p2, cp2, rfl⟩ := own_slice hcs0
       clear hcs0 e0 e1 e2 hrc hnode hke hRin hrep
       have gvc := blk_cell hgv 0 _ rfl
       have hgl := lt_of_block hgv
       go_wp2_with fail
       clear gvc hgl
       have hin5 := HIN.out.below (below_al (Below.refl _ _) (.cells #[.int .i64 (rk : Nat), .slice sp sn sc, .iface T2 x2] 123))
       have hgv5 := stay_alloc (p := .cells #[.int .i64 (rk : Nat), .slice sp sn sc, .iface T2 x2] 123) hgv
       have hx5 := heap_alloc_new wr (.cells #[.int .i64 (rk : Nat), .slice sp sn sc, .iface T2 x2] 123)
       generalize wr.alloc (.cells #[.int .i64 (rk : Nat), .slice sp sn sc, .iface T2 x2] 123) = w5 at *
       generalize wr.heap.size = gx at *
       clear r0 r1 r2 hbw HIN hgv
       refine (HFT.out w5 hin5.2.2 hin5.2.1).mono ?_
       rintro e w6 ⟨hb6, of', fv, ⟨ov, rfl, hov⟩, rfl, _⟩
       have hin6 := hin5.below hb6
       have hgv6 := (hb6.block _ (lt_of_block hgv5)).trans hgv5
       have hx6 := (hb6.block _ (lt_of_block hx5)).trans hx5
       obtain ⟨op, oc, rfl⟩ := own_slice hov
       clear hov hin5 hgv5 hx5 hb6
       have hin7 := hin6.below (below_al (Below.refl _ _) (.cells #[.pointer (some ⟨tb, 0, none⟩), .slice op of'.length oc] 220))
       have hgv7 := stay_alloc (p := .cells #[.pointer (some ⟨tb, 0, none⟩), .slice op of'.length oc] 220) hgv6
       have y0 := blk_cell hx6 0 _ rfl
       have y1 := blk_cell hx6 1 _ rfl
       have y2 := blk_cell hx6 2 _ rfl
       have hgx := lt_of_block hx6
       cases ho : o.isSome with
       | false =>
        rw [ho] at HFS
        have hnew : Hid (rs = qs ++ Code.rowPairs (F v) j k (List.take (m + 1) rules)) := hide (by rw [HRT.out, HFS.out]; simpa using hrs.out)
        clear hin6 hgv6 hx6
        go_wp2
        exact ⟨⟨m + 1, rs, by omega, by go_num, by omega, hnew, hin7, hgv7⟩, by simp [intOf]; omega⟩
       | true =>
        rw [ho] at HFS
        have hnew : Hid (rs ++ [⟨j, k, R⟩] = qs ++ Code.rowPairs (F v) j k (List.take (m + 1) rules)) := hide (by rw [HRT.out, HFS.out, hrs.out]; simp)
        clear hin6 hgv6 hx6
        have HIN7 := hide hin7
        obtain ⟨⟨cs7, hcs7, hpc7⟩, hth7, hb7⟩ := hin7
        have HPC := hide hpc7
        have hcn := D.cells_new (w6.alloc (.cells #[.pointer (some ⟨tb, 0, none⟩), .slice op of'.length oc] 220)) [.int .i64 (j : Nat), .int .i64 (k : Nat), .int .i64 (rk : Nat), .slice sp sn sc, .iface T2 x2] 151
        rw [alloc_size] at hcn
        have HCN := hide hcn
        clear hcn
        have hz7 : w0.heap.size <= w6.heap.size + 1 := by have := hb7.size; rwa [alloc_size] at this
        go_wp2_with (first | (at_builtin; refine wpList_append_own _ rfl _ _ 144 rfl w0.heap.size 151 i0 (.agg #[.int .i64 0, .int .i64 0, .int .i64 0, .slice none 0 0, .nilIface]) 5 64 Tryz.underlying144 hi hz0 hz1 hz2 rfl (by decide) (.slice p2 rs.length cp2) rs.length cs7 rfl (hcs7.alloc _) ⟨_, 0, none⟩ 1 1 [.int .i64 (j : Nat), .int .i64 (k : Nat), .int .i64 (rk : Nat), .slice sp sn sc, .iface T2 x2] rfl rfl HCN.out (fun x hx => by simp at hx; rcases hx with rfl | rfl | rfl | rfl | rfl <;> rfl) (by unfold maxLen; omega) (by omega) (by simp; omega) ?_; intro v' w8 hown' hgrow8 hnil8))
        have hb8 : Below w0.heap.size w0 w8 := (below_al hb7 _).grown hgrow8 (by have := hb7.size; simp; omega) (fun q hq => (hcs7.lt q hq).1)
        exact ⟨⟨m + 1, rs ++ [⟨j, k, R⟩], by omega, by go_num, by simp; omega, hnew, ⟨⟨_, by simpa using hown', HPC.out.snoc hcs7.1 HREP.out⟩, stay_grown (hcs7.alloc _) hgrow8 (stay_alloc hth7) (by decide), hb8⟩, stay_grown (hcs7.alloc _) hgrow8 (stay_alloc hgv7) (by decide)⟩, by simp [intOf]; omega⟩
      ·have HA : Hid (rules.take m = rules) := hide (List.take_of_length_le (by omega))
       rw [HA.out] at hrs
       obtain ⟨⟨cs0, hcs0, _⟩, _, _⟩ := id hin
       obtain ⟨p2, cp2, rfl⟩ := own_slice hcs0
       clear hcs0
       go_wp2
       exact ⟨⟨k + 1, rs, by omega, by go_num, Nat.le_trans hrl' (by rw [Nat.succ_mul]; omega), hide (by rw [HSV.out, <- List.append_assoc, <- hqs.out]; exact hrs.out), hin⟩, by simp [intOf]; omega⟩
    ·have HA : Hid (vals.take k = vals) := hide (List.take_of_length_le (by omega))
     rw [HA.out] at hqs
     obtain ⟨⟨cs0, hcs0, _⟩, _, _⟩ := id hin
     obtain ⟨p2, cp2, rfl⟩ := own_slice hcs0
     clear hcs0
     go_wp2
     exact ⟨⟨j + 1, qs, by omega, by go_num, Nat.le_trans hql (by rw [Nat.succ_mul]; omega), hide (by rw [HST.out, <- hps.out]; exact hqs.out), hin⟩, by simp [intOf]; omega⟩
  ·have HA : Hid (bks.take j = bks) := hide (List.take_of_length_le (by omega))
   rw [HA.out] at hps
   have hps' := hps.out
   subst hps'
   obtain ⟨⟨cs0, hcs0, hcp⟩, _, hbw⟩ := hin
   have HO := hide hcs0
   obtain ⟨p2, cp2, rfl⟩ := own_slice hcs0
   clear hcs0
   go_wp2
   go_ret
   exact ⟨_, rfl, cs0, own_base HO.out (Nat.zero_le _), hcp, HB0.out _ hbw⟩
theorem rem_rem (p : Int) (n : Nat) (hn : 0 < n) : (p.tmod n) % (n : Int) = ((p % (n : Int)).toNat : Nat) := by
 have h1 := Int.emod_nonneg p (b := (n : Int)) (by omega)
 rw [Int.toNat_of_nonneg h1, Int.tmod_eq_emod]
 split
 ·simp
 ·have e : ((n : Int).natAbs : Int) = n := by simp
  rw [e, Int.sub_emod, Int.emod_self, Int.sub_zero, Int.emod_emod, Int.emod_emod]
def PicksAt (w : World) (v : Value) (ns : List Int) : Prop := ∃ p c, v = .slice p ns.length c /\ ∀ j (h : j < ns.length), ∃ g o, p = some ⟨g, o, none⟩ /\ w.cell? ⟨g, o + j, none⟩ = some (.int .i64 ns[j])
theorem PicksAt.below {w w' : World} {v : Value} {ns : List Int} (h : PicksAt w v ns) (hb : Below w.heap.size w w') : PicksAt w' v ns := by
 obtain ⟨p, c, rfl, hc⟩ := h
 refine ⟨p, c, rfl, fun j hj => ?_⟩
 obtain ⟨g, o, rfl, e⟩ := hc j hj
 refine ⟨g, o, rfl, ?_⟩
 cases hh : w.heap[g]? with
 | none => simp [World.cell?, hh] at e
 | some ob =>
  have h2 := hb.block g (lt_of_block hh)
  simpa [World.cell?, h2] using e
theorem picked_any (picks : List Int) (pv : Value) (k n : Nat) (w : World) (hp : PicksAt w pv picks) (hin : ∀ p ∈ picks, -9223372036854775808 <= p /\ p <= 9223372036854775807) (hn : 0 < n) (hn' : n <= 1000000000) :
  Calls Tryz.prog 78 #[pv, .int .i64 (k : Nat), .int .i64 (n : Nat)] w fun e w' => e = .returned (.int .i64 (Code.pickN picks k n : Nat)) /\ w' = w := by
 obtain ⟨p, c, rfl, hcell⟩ := hp
 by_cases hlt : k < picks.length
 ·have HP : Hid (Code.pickN picks k n = (picks[k] % (n : Int)).toNat) := hide (by unfold Code.pickN; rw [List.getElem?_eq_getElem hlt])
  rw [HP.out]
  have HRR := hide (rem_rem picks[k] n hn)
  rw [<- HRR.out]
  obtain ⟨g, o, rfl, e0⟩ := hcell k hlt
  have hr := hin picks[k] (List.getElem_mem hlt)
  generalize picks[k] = x at *
  have hge : ¬ (picks.length : Int) <= (k : Int) := by omega
  have hlt' : (k : Int) < (picks.length : Int) := by omega
  have h0 : ¬ (n : Int) = 0 := by omega
  have h1 := Int.tmod_lt_of_pos x (b := (n : Int)) (by omega)
  have h2 := Int.lt_tmod_of_pos x (b := (n : Int)) (by omega)
  clear hcell HP HRR hin
  generalize hy : x.tmod (n : Int) = y at *
  go_enter Tryz.func78, Tryz.ntmps78
  go_wp2
  go_ret
  exact ⟨rfl, rfl⟩
 ·have HP : Hid (Code.pickN picks k n = 0) := hide (by unfold Code.pickN; rw [List.getElem?_eq_none (by omega)])
  rw [HP.out]
  have hge : (picks.length : Int) <= (k : Int) := by omega
  clear hcell HP hin
  go_enter Tryz.func78, Tryz.ntmps78
  go_wp2
  go_ret
  exact ⟨rfl, rfl⟩
theorem ch_byteOf (m : Nat) : Ref.ch (m % 10) = byteOf (48 + (m : Int) % 10) := by
 unfold Ref.ch byteOf
 congr 1
theorem kdigits_nat (n : Nat) (w : World) (hn : n < 4611686018427387904) :
  Calls Tryz.prog 26 #[.int .i64 n] w fun e w' => e = .returned (.string (bs (Ref.dec n))) /\ Below w.heap.size w w' := by
 have hcv := conv1
 have hb1 : ∀ x, (bs [x]).size = 1 := fun x => bs_size [x]
 go_enter Tryz.func26, Tryz.ntmps26
 go_wp2
 go_loopw [0, 3] (fun a b wr => ∃ (m : Nat) (q : List UInt8), m <= n /\ a = .int .i64 m /\ b = .string (bs (Ref.ch (m % 10) :: q)) /\ q.length + m <= n /\ Below w.heap.size w wr /\ Hid (Ref.dec m ++ q = Ref.dec n))
  (fun a _ _ => (intOf a).toNat)
 case atStart => exact ⟨n, [], by omega, rfl, by rw [ch_byteOf], by simp, (Below.refl _ _).alloc (Nat.le_refl _) _, by simp [Hid]⟩
 case round =>
  obtain ⟨m, q, hm, rfl, rfl, hq, hbel, hsp⟩ := hrel
  have hsz := hbel.size
  have hbz := bs_size (Ref.ch (m % 10) :: q)
  simp only [List.length_cons] at hbz
  by_cases h10 : 10 <= m
  ·have HS : Hid (Ref.dec (m / 10) ++ (Ref.ch (m % 10) :: q) = Ref.dec n) := by
    rw [<- hsp.out, Ref.dec_big h10, List.append_assoc]; rfl
   clear hsp
   generalize hb : bs (Ref.ch (m % 10) :: q) = t at *
   have HB := hide hb
   clear hb
   have hts : t.size <= 9223372036854775000 := by omega
   clear hbz
   go_wp2
   refine ⟨⟨m / 10, Ref.ch (m % 10) :: q, by omega, by go_num, ?_, by simp; omega, hbel.alloc hsz _, HS⟩, by simp [intOf]; omega⟩
   rw [<- HB.out, bs_append, ch_byteOf]; rfl
  ·have HS : Hid (Ref.ch (m % 10) :: q = Ref.dec n) := by
    rw [<- hsp.out, Ref.dec_small (by omega)]; rfl
   clear hsp
   rw [HS.out]
   go_wp2
   go_ret
   exact ⟨rfl, hbel⟩
theorem kdigits_any (n : Int) (w : World) (hn : -4611686018427387904 < n /\ n < 4611686018427387904) :
  Calls Tryz.prog 26 #[.int .i64 n] w fun e w' => e = .returned (.string (bs (Ref.digits n))) /\ Below w.heap.size w w' := by
 obtain ⟨hn1, hn2⟩ := hn
 by_cases h : n < 0
 ·have HF : Hid (Ref.digits n = 45 :: Ref.dec (-n).toNat) := by simp only [Hid, Ref.digits, if_pos h]
  have hm : ((-n).toNat : Int) = -n := by omega
  have hsz := Ref.dec_length (-n).toNat (by omega)
  go_enter Tryz.func26, Tryz.ntmps26
  go_wp2_with fail
  rw [<- hm]
  refine (kdigits_nat (-n).toNat w (by omega)).mono ?_
  rintro e w' ⟨rfl, hb⟩
  have hbz := bs_size (Ref.dec (-n).toNat)
  clear hm
  generalize hT : bs (Ref.dec (-n).toNat) = t at *
  have HT := hide hT
  clear hT
  go_wp2
  go_ret
  exact ⟨congrArg (fun x => Ending.returned (.string x)) (by rw [HF.out, <- HT.out]; exact bs_append [45] _), hb⟩
 ·have HF : Hid (Ref.digits n = Ref.dec n.toNat) := by simp only [Hid, Ref.digits, if_neg h]
  have hm : (n.toNat : Int) = n := by omega
  have h2 := kdigits_nat n.toNat w (by omega)
  rw [hm] at h2
  rw [HF.out]
  exact h2
theorem long_any (n : Int) (w : World) :
  Calls Tryz.prog 23 #[.int .i64 n] w fun e w' => e = .returned (.int .i64 (wrap32 n)) /\ w' = w := by
 have h : wrap64 (wrap32 n) = wrap32 n := by unfold wrap64 wrap32; omega
 go_enter Tryz.func23, Tryz.ntmps23
 go_wp2
 go_ret
 exact ⟨congrArg (fun x => Ending.returned (.int .i64 x)) h, rfl⟩
theorem w32_64 (x : Int) : wrap32 (wrap64 x) = wrap32 x := by unfold wrap64 wrap32; omega
theorem w32_in (x : Int) (h : -2147483648 <= x) (h' : x < 2147483648) : wrap32 x = x := by unfold wrap32; omega
theorem wrap_is64 (x : Int) : IntKind.i64.wrap x = wrap64 x := by rw [IntKind.wrap_i64]; unfold wrap64; omega
theorem wrap_is32 (x : Int) : IntKind.i32.wrap x = wrap32 x := by rw [IntKind.wrap_i32]; unfold wrap32; omega
theorem w32_mod {x y : Nat} (h : x % 2 ^ 32 = y % 2 ^ 32) : wrap32 (x : Int) = wrap32 (y : Int) := by unfold wrap32; omega
theorem low32 (a : Int) : (BitVec.ofInt 64 a).toNat % 2 ^ 32 = (BitVec.ofInt 32 a).toNat := by
 rw [BitVec.toNat_ofInt, BitVec.toNat_ofInt]; omega
theorem low32' (a : Int) : (BitVec.ofInt 32 a).toNat % 2 ^ 32 = (BitVec.ofInt 32 a).toNat := Nat.mod_eq_of_lt (BitVec.isLt _)
theorem w32_and (a b : Int) : wrap32 (bits .and .i64 a b) = bits .and .i32 a b := by
 have h1 : bits .and .i64 a b = IntKind.i64.wrap (((BitVec.ofInt 64 a).toNat &&& (BitVec.ofInt 64 b).toNat : Nat) : Int) := rfl
 have h2 : bits .and .i32 a b = IntKind.i32.wrap (((BitVec.ofInt 32 a).toNat &&& (BitVec.ofInt 32 b).toNat : Nat) : Int) := rfl
 rw [h1, h2, wrap_is64, wrap_is32, w32_64]
 apply w32_mod
 rw [Nat.and_mod_two_pow, Nat.and_mod_two_pow, low32, low32, low32', low32']
theorem w32_or (a b : Int) : wrap32 (bits .or .i64 a b) = bits .or .i32 a b := by
 have h1 : bits .or .i64 a b = IntKind.i64.wrap (((BitVec.ofInt 64 a).toNat ||| (BitVec.ofInt 64 b).toNat : Nat) : Int) := rfl
 have h2 : bits .or .i32 a b = IntKind.i32.wrap (((BitVec.ofInt 32 a).toNat ||| (BitVec.ofInt 32 b).toNat : Nat) : Int) := rfl
 rw [h1, h2, wrap_is64, wrap_is32, w32_64]
 apply w32_mod
 rw [Nat.or_mod_two_pow, Nat.or_mod_two_pow, low32, low32, low32', low32']
theorem w32_xor (a b : Int) : wrap32 (bits .xor .i64 a b) = bits .xor .i32 a b := by
 have h1 : bits .xor .i64 a b = IntKind.i64.wrap (((BitVec.ofInt 64 a).toNat ^^^ (BitVec.ofInt 64 b).toNat : Nat) : Int) := rfl
 have h2 : bits .xor .i32 a b = IntKind.i32.wrap (((BitVec.ofInt 32 a).toNat ^^^ (BitVec.ofInt 32 b).toNat : Nat) : Int) := rfl
 rw [h1, h2, wrap_is64, wrap_is32, w32_64]
 apply w32_mod
 rw [Nat.xor_mod_two_pow, Nat.xor_mod_two_pow, low32, low32, low32', low32']
theorem not_is (a : Int) (h : -2147483648 <= a) (h' : a < 2147483648) : bits .xor .i32 (-1) a = -1 - a := by
 have h2 : bits .xor .i32 (-1) a = IntKind.i32.wrap (((BitVec.ofInt 32 (-1)).toNat ^^^ (BitVec.ofInt 32 a).toNat : Nat) : Int) := rfl
 have h3 : BitVec.ofInt 32 (-1) = BitVec.allOnes 32 := by decide
 rw [h2, <- BitVec.toNat_xor, h3, BitVec.xor_comm, BitVec.xor_allOnes, BitVec.toNat_not, BitVec.toNat_ofInt, IntKind.wrap_i32]
 omega
theorem i64_and31 (n : Int) : bits .and .i64 n 31 = n % 32 := by
 have low : ∀ m : Nat, m &&& 31 = m % 32 := fun m => Nat.and_two_pow_sub_one_eq_mod m 5
 have said : bits .and .i64 n 31 = IntKind.i64.wrap (((BitVec.ofInt 64 n).toNat &&& 31 : Nat) : Int) := rfl
 rw [said, low, BitVec.toNat_ofInt, IntKind.wrap_i64]
 omega
theorem ret_i64 {v v' : Int} (h : v = v') : Ending.returned (.int .i64 v) = .returned (.int .i64 v') := by rw [h]
theorem kr0 (a b : Int) (w : World) (_ha : -2147483648 <= a) (_ha' : a < 2147483648) (_hb : -2147483648 <= b) (_hb' : b < 2147483648) :
  Calls Tryz.prog 48 #[.int .i64 0, .int .i64 a, .int .i64 b] w fun e w' => e = .returned (.int .i64 (wrap32 (a + b))) /\ w' = w := by
 go_enter Tryz.func48, Tryz.ntmps48
 go_wp2_with fail
 refine (long_any _ _).mono ?_
 rintro e w' ⟨rfl, rfl⟩
 go_wp2_with fail
 go_ret
 exact ⟨ret_i64 (rfl), rfl⟩
theorem kr1 (a b : Int) (w : World) (_ha : -2147483648 <= a) (_ha' : a < 2147483648) (_hb : -2147483648 <= b) (_hb' : b < 2147483648) :
  Calls Tryz.prog 48 #[.int .i64 1, .int .i64 a, .int .i64 b] w fun e w' => e = .returned (.int .i64 (wrap32 (a - b))) /\ w' = w := by
 go_enter Tryz.func48, Tryz.ntmps48
 go_wp2_with fail
 refine (long_any _ _).mono ?_
 rintro e w' ⟨rfl, rfl⟩
 go_wp2_with fail
 go_ret
 exact ⟨ret_i64 (rfl), rfl⟩
theorem kr2 (a b : Int) (w : World) (_ha : -2147483648 <= a) (_ha' : a < 2147483648) (_hb : -2147483648 <= b) (_hb' : b < 2147483648) :
  Calls Tryz.prog 48 #[.int .i64 2, .int .i64 a, .int .i64 b] w fun e w' => e = .returned (.int .i64 (wrap32 (a * b))) /\ w' = w := by
 go_enter Tryz.func48, Tryz.ntmps48
 go_wp2_with fail
 refine (long_any _ _).mono ?_
 rintro e w' ⟨rfl, rfl⟩
 go_wp2_with fail
 go_ret
 exact ⟨ret_i64 (w32_64 _), rfl⟩
theorem kr3 (a b : Int) (w : World) (_ha : -2147483648 <= a) (_ha' : a < 2147483648) (_hb : -2147483648 <= b) (_hb' : b < 2147483648) :
  Calls Tryz.prog 48 #[.int .i64 3, .int .i64 a, .int .i64 b] w fun e w' => e = .returned (.int .i64 (bits .and .i32 a b)) /\ w' = w := by
 go_enter Tryz.func48, Tryz.ntmps48
 go_wp2_with fail
 refine (long_any _ _).mono ?_
 rintro e w' ⟨rfl, rfl⟩
 go_wp2_with fail
 go_ret
 exact ⟨ret_i64 (w32_and a b), rfl⟩
theorem kr4 (a b : Int) (w : World) (_ha : -2147483648 <= a) (_ha' : a < 2147483648) (_hb : -2147483648 <= b) (_hb' : b < 2147483648) :
  Calls Tryz.prog 48 #[.int .i64 4, .int .i64 a, .int .i64 b] w fun e w' => e = .returned (.int .i64 (bits .or .i32 a b)) /\ w' = w := by
 go_enter Tryz.func48, Tryz.ntmps48
 go_wp2_with fail
 refine (long_any _ _).mono ?_
 rintro e w' ⟨rfl, rfl⟩
 go_wp2_with fail
 go_ret
 exact ⟨ret_i64 (w32_or a b), rfl⟩
theorem kr5 (a b : Int) (w : World) (_ha : -2147483648 <= a) (_ha' : a < 2147483648) (_hb : -2147483648 <= b) (_hb' : b < 2147483648) :
  Calls Tryz.prog 48 #[.int .i64 5, .int .i64 a, .int .i64 b] w fun e w' => e = .returned (.int .i64 (bits .xor .i32 a b)) /\ w' = w := by
 go_enter Tryz.func48, Tryz.ntmps48
 go_wp2_with fail
 refine (long_any _ _).mono ?_
 rintro e w' ⟨rfl, rfl⟩
 go_wp2_with fail
 go_ret
 exact ⟨ret_i64 (w32_xor a b), rfl⟩
theorem kr6 (a b : Int) (w : World) (_ha : -2147483648 <= a) (_ha' : a < 2147483648) (_hb : -2147483648 <= b) (_hb' : b < 2147483648) :
  Calls Tryz.prog 48 #[.int .i64 6, .int .i64 a, .int .i64 b] w fun e w' => e = .returned (.int .i64 (wrap32 (a * 2 ^ (b % 32).toNat))) /\ w' = w := by
 have h31 := i64_and31 b
 go_enter Tryz.func48, Tryz.ntmps48
 go_wp2_with fail
 refine (long_any _ _).mono ?_
 rintro e w' ⟨rfl, rfl⟩
 go_wp2_with fail
 go_ret
 exact ⟨ret_i64 (w32_64 _), rfl⟩
theorem kr7 (a b : Int) (w : World) (_ha : -2147483648 <= a) (_ha' : a < 2147483648) (_hb : -2147483648 <= b) (_hb' : b < 2147483648) :
  Calls Tryz.prog 48 #[.int .i64 7, .int .i64 a, .int .i64 b] w fun e w' => e = .returned (.int .i64 (a / 2 ^ (b % 32).toNat)) /\ w' = w := by
 have hsr : -2147483648 <= a / 2 ^ (b % 32).toNat /\ a / 2 ^ (b % 32).toNat < 2147483648 := by
  have hp : (0 : Int) < 2 ^ (b % 32).toNat := Int.pow_pos (by omega)
  generalize (2 : Int) ^ (b % 32).toNat = p at hp
  exact ⟨(Int.le_ediv_iff_mul_le hp).2 (by omega), Int.ediv_lt_of_lt_mul hp (by omega)⟩
 have h31 := i64_and31 b
 go_enter Tryz.func48, Tryz.ntmps48
 go_wp2_with fail
 refine (long_any _ _).mono ?_
 rintro e w' ⟨rfl, rfl⟩
 go_wp2_with fail
 go_ret
 exact ⟨ret_i64 (w32_in _ hsr.1 hsr.2), rfl⟩
theorem kr8 (a b : Int) (w : World) (_ha : -2147483648 <= a) (_ha' : a < 2147483648) (_hb : -2147483648 <= b) (_hb' : b < 2147483648) :
  Calls Tryz.prog 48 #[.int .i64 8, .int .i64 a, .int .i64 b] w fun e w' => e = .returned (.int .i64 (if a = b then 1 else 0)) /\ w' = w := by
 by_cases h : a = b
 ·rw [if_pos h]
  go_enter Tryz.func48, Tryz.ntmps48
  go_wp2_with fail
  go_ret
  exact ⟨rfl, rfl⟩
 ·rw [if_neg h]
  go_enter Tryz.func48, Tryz.ntmps48
  go_wp2_with fail
  go_ret
  exact ⟨rfl, rfl⟩
theorem kr9 (a b : Int) (w : World) (_ha : -2147483648 <= a) (_ha' : a < 2147483648) (_hb : -2147483648 <= b) (_hb' : b < 2147483648) :
  Calls Tryz.prog 48 #[.int .i64 9, .int .i64 a, .int .i64 b] w fun e w' => e = .returned (.int .i64 (if a < b then 1 else 0)) /\ w' = w := by
 by_cases h : a < b
 ·rw [if_pos h]
  go_enter Tryz.func48, Tryz.ntmps48
  go_wp2_with fail
  go_ret
  exact ⟨rfl, rfl⟩
 ·rw [if_neg h]
  go_enter Tryz.func48, Tryz.ntmps48
  go_wp2_with fail
  go_ret
  exact ⟨rfl, rfl⟩
theorem kr10 (a b : Int) (w : World) (_ha : -2147483648 <= a) (_ha' : a < 2147483648) (_hb : -2147483648 <= b) (_hb' : b < 2147483648) :
  Calls Tryz.prog 48 #[.int .i64 10, .int .i64 a, .int .i64 b] w fun e w' => e = .returned (.int .i64 (wrap32 (-a))) /\ w' = w := by
 go_enter Tryz.func48, Tryz.ntmps48
 go_wp2_with fail
 refine (long_any _ _).mono ?_
 rintro e w' ⟨rfl, rfl⟩
 go_wp2_with fail
 go_ret
 exact ⟨ret_i64 (rfl), rfl⟩
theorem kr11 (a b : Int) (w : World) (_ha : -2147483648 <= a) (_ha' : a < 2147483648) (_hb : -2147483648 <= b) (_hb' : b < 2147483648) :
  Calls Tryz.prog 48 #[.int .i64 11, .int .i64 a, .int .i64 b] w fun e w' => e = .returned (.int .i64 (bits .xor .i32 (-1) a)) /\ w' = w := by
 go_enter Tryz.func48, Tryz.ntmps48
 go_wp2_with fail
 refine (long_any _ _).mono ?_
 rintro e w' ⟨rfl, rfl⟩
 go_wp2_with fail
 go_ret
 exact ⟨ret_i64 ((w32_in _ (by omega) (by omega)).trans (not_is a _ha _ha').symm), rfl⟩
end Go.Proofs.YtedkjanogjglkaaGreatDoor
