/-
  What the functions of 'works' and 'Looped' come to.
-/
import Derived.Test.YtdffpkmabehfbaaDoorCLoops
namespace Go.Proofs.YtdffpkmabehfbaaDoor
open Go.RowKit
namespace Code

theorem endsW1 : Ends [5] fnW1.blocks 100 0 0 zeros 0 40 4 0 :=
  Ends.ret (args := [5]) (bks := fnW1.blocks) (fu := 100) (at_ := 0) (place := 0) (V := zeros) (st := 0) (b := ⟨[⟨0, .arg 0⟩, ⟨1, .const 8⟩, ⟨2, .apply 2 [0, 1]⟩], .ret 2⟩) (v := 2) (V' := (((zeros.set 0 5).set 1 8).set 2 40)) (st' := 3) rfl (by kernel_rfl) (by omega) rfl

theorem endsW2 : Ends [] fnW2.blocks 9 0 0 zeros 0 0 2 4 :=
  Ends.trap (b := ⟨[⟨0, .const 0⟩, ⟨1, .apply 3 [0, 0]⟩], .ret 1⟩) (V' := zeros.set 0 0) (st' := 2) rfl (by kernel_rfl)

theorem tri_two : ∀ k : Nat, 2 * tri k = (k : Int) * ((k : Int) + 1)
  | 0 => rfl
  | k + 1 => by
    have h := tri_two k
    have e : ((k + 1 : Nat) : Int) * (((k + 1 : Nat) : Int) + 1) = (k : Int) * ((k : Int) + 1) + 2 * ((k : Int) + 1) := by
      rw [Int.natCast_add]
      simp only [Int.add_mul, Int.mul_add, Int.one_mul, Int.mul_one, Int.natCast_one]
      omega
    rw [e, ← h]
    simp only [tri]
    omega

theorem endsL1 (k : Nat) (hk : k ≤ 1000) : Ends [(k : Int)] fnL1.blocks 100000 0 0 zeros 0 (tri k) (8 + 6 * k) 0 := by
  have c0 : wrap32 ([(k : Int)].getD 0 0) = (k : Int) := wrap_in _ (by show (-2147483648 : Int) ≤ (k : Int); omega) (by show (k : Int) < 2147483648; omega)
  have hrv : runVals [(k : Int)] zeros 0 100000 [⟨0, .arg 0⟩, ⟨1, .const 0⟩, ⟨2, .const (-1)⟩] zeros 0 = .ok (((zeros.set 0 (k : Int)).set 1 0).set 2 (-1)) 3 := by
    rw [runVals_on (n := (k : Int)) (by omega) (by simp only [comes]; rw [c0]), runVals_on (n := 0) (by omega) rfl, runVals_on (n := -1) (by omega) rfl]
    rfl
  refine Ends.jump (b := ⟨[⟨0, .arg 0⟩, ⟨1, .const 0⟩, ⟨2, .const (-1)⟩], .jump 1⟩) rfl hrv (by omega) rfl ?_
  rw [places1.1]
  have h := loop1 [(k : Int)] k 0 (((zeros.set 0 (k : Int)).set 1 0).set 2 (-1)) 4 0 rfl rfl rfl rfl hk (by omega) (by omega) (by omega)
  have e1 : (0 : Int) + tri k = tri k := by omega
  have e2 : 4 + 6 * k + 4 = 8 + 6 * k := by omega
  rw [e1, e2] at h
  exact h

theorem endsL2 (k : Nat) (hk : k ≤ 1000) : Ends [(k : Int)] fnL2.blocks 100000 0 0 zeros 0 (if k % 2 = 1 then 9 else 7) (10 + 6 * k) 0 := by
  have c0 : wrap32 ([(k : Int)].getD 0 0) = (k : Int) := wrap_in _ (by show (-2147483648 : Int) ≤ (k : Int); omega) (by show (k : Int) < 2147483648; omega)
  have hrv : runVals [(k : Int)] zeros 0 100000 [⟨0, .arg 0⟩, ⟨1, .const 7⟩, ⟨2, .const 9⟩, ⟨8, .const (-1)⟩] zeros 0 = .ok ((((zeros.set 0 (k : Int)).set 1 7).set 2 9).set 8 (-1)) 4 := by
    rw [runVals_on (n := (k : Int)) (by omega) (by simp only [comes]; rw [c0]), runVals_on (n := 7) (by omega) rfl, runVals_on (n := 9) (by omega) rfl, runVals_on (n := -1) (by omega) rfl]
    rfl
  refine Ends.jump (b := ⟨[⟨0, .arg 0⟩, ⟨1, .const 7⟩, ⟨2, .const 9⟩, ⟨8, .const (-1)⟩], .jump 1⟩) rfl hrv (by omega) rfl ?_
  rw [places2.1]
  have h := loop2 [(k : Int)] k 7 9 ((((zeros.set 0 (k : Int)).set 1 7).set 2 9).set 8 (-1)) 5 0 rfl rfl rfl rfl rfl hk (by omega)
  have e2 : 5 + 6 * k + 5 = 10 + 6 * k := by omega
  rw [e2] at h
  exact h
end Code

/-- ir.Run of a text whose run is known. -/
theorem irRun_at (s : List UInt8) (f : Code.Fn) (av : Value) (args : List Int) (fu : Nat) (w : World) (r : Int) (n : Nat) (er : Int) (hs : s.length ≤ 1500) (ht : Tab w) (hf : Code.FnIs s f) (hr : Code.Right f.blocks) (hav : w.ownsRow 0 3 1 av args.length (ints args)) (hal : args.length = f.args) (h32 : In32 args) (hal2 : args.length ≤ 100000) (hfu : fu ≤ 100000) (hrun : Code.Runs args f.blocks) (hE : Code.Ends args f.blocks fu 0 0 zeros 0 r n er) :
    Calls Tryd.prog 9 #[.string (bs s), av, .int .i64 (fu : Nat)] w fun e w' => e = .returned (.tuple #[.int .i64 r, .int .i64 (n : Nat), .int .i64 er]) ∧ Below w.heap.size w w' := by
  refine (irRun_ok s f av args fu w hs ht hf hr hav hal h32 hal2 hfu hrun).mono ?_
  rintro e w' ⟨r', n', er', hE', rfl, hb⟩
  obtain ⟨rfl, rfl, rfl⟩ := hE'.det hE
  exact ⟨rfl, hb⟩
end Go.Proofs.YtdffpkmabehfbaaDoor
