/-
  The functions of the statements 'works' and 'Looped'.
-/
import Derived.Test.YtdffpkmabehfbaaDoorCCheck
import Derived.KernelRfl
namespace Go.Proofs.YtdffpkmabehfbaaDoor
namespace Code

def textW1 : List UInt8 := [102, 117, 110, 99, 32, 49, 10, 98, 48, 58, 10, 118, 48, 32, 61, 32, 97, 114, 103, 32, 48, 10, 118, 49, 32, 61, 32, 99, 111, 110, 115, 116, 32, 56, 10, 118, 50, 32, 61, 32, 109, 117, 108, 32, 118, 48, 32, 118, 49, 10, 114, 101, 116, 32, 118, 50, 10]
def fnW1 : Fn := ⟨1, [⟨[⟨0, .arg 0⟩, ⟨1, .const 8⟩, ⟨2, .apply 2 [0, 1]⟩], .ret 2⟩]⟩
set_option maxRecDepth 100000 in
theorem isW1 : FnIs textW1 fnW1 := fnF_sound (by kernel_rfl)
set_option maxRecDepth 100000 in
theorem rightW1 : Right fnW1.blocks := rightB_sound (by kernel_rfl)
set_option maxRecDepth 100000 in
theorem runsW1 (args : List Int) (h : args.length = 1) : Runs args fnW1.blocks := runsB_sound rightW1 (by rw [h]; kernel_rfl)

def textW2 : List UInt8 := [102, 117, 110, 99, 32, 48, 10, 98, 48, 58, 10, 118, 48, 32, 61, 32, 99, 111, 110, 115, 116, 32, 48, 10, 118, 49, 32, 61, 32, 100, 105, 118, 32, 118, 48, 32, 118, 48, 10, 114, 101, 116, 32, 118, 49, 10]
def fnW2 : Fn := ⟨0, [⟨[⟨0, .const 0⟩, ⟨1, .apply 3 [0, 0]⟩], .ret 1⟩]⟩
set_option maxRecDepth 100000 in
theorem isW2 : FnIs textW2 fnW2 := fnF_sound (by kernel_rfl)
set_option maxRecDepth 100000 in
theorem rightW2 : Right fnW2.blocks := rightB_sound (by kernel_rfl)
set_option maxRecDepth 100000 in
theorem runsW2 (args : List Int) (h : args.length = 0) : Runs args fnW2.blocks := runsB_sound rightW2 (by rw [h]; kernel_rfl)

def textL1 : List UInt8 := [102, 117, 110, 99, 32, 49, 10, 98, 48, 58, 10, 118, 48, 32, 61, 32, 97, 114, 103, 32, 48, 10, 118, 49, 32, 61, 32, 99, 111, 110, 115, 116, 32, 48, 10, 118, 50, 32, 61, 32, 99, 111, 110, 115, 116, 32, 45, 49, 10, 106, 117, 109, 112, 32, 98, 49, 10, 98, 49, 58, 10, 118, 51, 32, 61, 32, 112, 104, 105, 32, 118, 48, 32, 118, 53, 10, 118, 52, 32, 61, 32, 112, 104, 105, 32, 118, 49, 32, 118, 54, 10, 105, 102, 32, 118, 51, 32, 98, 50, 32, 98, 51, 10, 98, 50, 58, 10, 118, 53, 32, 61, 32, 97, 100, 100, 32, 118, 51, 32, 118, 50, 10, 118, 54, 32, 61, 32, 97, 100, 100, 32, 118, 52, 32, 118, 51, 10, 106, 117, 109, 112, 32, 98, 49, 10, 98, 51, 58, 10, 114, 101, 116, 32, 118, 52, 10]
def fnL1 : Fn := ⟨1, [⟨[⟨0, .arg 0⟩, ⟨1, .const 0⟩, ⟨2, .const (-1)⟩], .jump 1⟩, ⟨[⟨3, .phi [0, 5]⟩, ⟨4, .phi [1, 6]⟩], .ifs 3 2 3⟩, ⟨[⟨5, .apply 0 [3, 2]⟩, ⟨6, .apply 0 [4, 3]⟩], .jump 1⟩, ⟨[], .ret 4⟩]⟩
set_option maxRecDepth 100000 in
theorem isL1 : FnIs textL1 fnL1 := fnF_sound (by kernel_rfl)
set_option maxRecDepth 100000 in
theorem rightL1 : Right fnL1.blocks := rightB_sound (by kernel_rfl)
set_option maxRecDepth 100000 in
theorem runsL1 (args : List Int) (h : args.length = 1) : Runs args fnL1.blocks := runsB_sound rightL1 (by rw [h]; kernel_rfl)

def textL2 : List UInt8 := [102, 117, 110, 99, 32, 49, 10, 98, 48, 58, 10, 118, 48, 32, 61, 32, 97, 114, 103, 32, 48, 10, 118, 49, 32, 61, 32, 99, 111, 110, 115, 116, 32, 55, 10, 118, 50, 32, 61, 32, 99, 111, 110, 115, 116, 32, 57, 10, 118, 56, 32, 61, 32, 99, 111, 110, 115, 116, 32, 45, 49, 10, 106, 117, 109, 112, 32, 98, 49, 10, 98, 49, 58, 10, 118, 51, 32, 61, 32, 112, 104, 105, 32, 118, 48, 32, 118, 54, 10, 118, 52, 32, 61, 32, 112, 104, 105, 32, 118, 49, 32, 118, 53, 10, 118, 53, 32, 61, 32, 112, 104, 105, 32, 118, 50, 32, 118, 52, 10, 105, 102, 32, 118, 51, 32, 98, 50, 32, 98, 51, 10, 98, 50, 58, 10, 118, 54, 32, 61, 32, 97, 100, 100, 32, 118, 51, 32, 118, 56, 10, 106, 117, 109, 112, 32, 98, 49, 10, 98, 51, 58, 10, 114, 101, 116, 32, 118, 52, 10]
def fnL2 : Fn := ⟨1, [⟨[⟨0, .arg 0⟩, ⟨1, .const 7⟩, ⟨2, .const 9⟩, ⟨8, .const (-1)⟩], .jump 1⟩, ⟨[⟨3, .phi [0, 6]⟩, ⟨4, .phi [1, 5]⟩, ⟨5, .phi [2, 4]⟩], .ifs 3 2 3⟩, ⟨[⟨6, .apply 0 [3, 8]⟩], .jump 1⟩, ⟨[], .ret 4⟩]⟩
set_option maxRecDepth 100000 in
theorem isL2 : FnIs textL2 fnL2 := fnF_sound (by kernel_rfl)
set_option maxRecDepth 100000 in
theorem rightL2 : Right fnL2.blocks := rightB_sound (by kernel_rfl)
set_option maxRecDepth 100000 in
theorem runsL2 (args : List Int) (h : args.length = 1) : Runs args fnL2.blocks := runsB_sound rightL2 (by rw [h]; kernel_rfl)
end Code
end Go.Proofs.YtdffpkmabehfbaaDoor
