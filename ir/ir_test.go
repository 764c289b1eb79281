package ir_test

import (
	"math"
	"slices"
	"strings"
	"testing"

	"chisel/api"
	"chisel/ir"
)

func lines(l ...string) string { return strings.Join(l, "\n") + "\n" }

// straight is a function of one block, without arguments.
func straight(l ...string) string { return "func 0\nb0:\n" + lines(l...) }

var (
	eight = lines("func 1", "b0:", "v0 = arg 0", "v1 = const 8", "v2 = mul v0 v1", "ret v2")
	loop  = lines("func 1", "b0:", "v0 = arg 0", "v1 = const 0", "v2 = const -1", "jump b1",
		"b1:", "v3 = phi v0 v5", "v4 = phi v1 v6", "if v3 b2 b3",
		"b2:", "v5 = add v3 v2", "v6 = add v4 v3", "jump b1", "b3:", "ret v4")
	diamond = lines("func 2", "b0:", "v0 = arg 0", "v1 = arg 1", "if v0 b1 b2",
		"b1:", "v2 = neg v1", "jump b3", "b2:", "v3 = not v1", "jump b3",
		"b3:", "v4 = phi v2 v3", "ret v4")
)

func wantCheck(t *testing.T, text string, want api.Errno) {
	t.Helper()
	if got := ir.Check(text); got != want {
		t.Errorf("Check(%q) = %d, want %d", text, got, want)
	}
	if want == api.OK {
		return
	}
	if n, got := ir.Weight(text); n != 0 || got != want {
		t.Errorf("Weight(%q) = %d, %d, want 0, %d", text, n, got, want)
	}
	if n, steps, got := ir.Run(text, nil, -1); n != 0 || steps != 0 || got != want {
		t.Errorf("Run(%q) = %d, %d, %d, want 0, 0, %d", text, n, steps, got, want)
	}
}

func wantRun(t *testing.T, text string, args []int, fuel, want, wantSteps int, wantErrno api.Errno) {
	t.Helper()
	n, steps, errno := ir.Run(text, args, fuel)
	if n != want || steps != wantSteps || errno != wantErrno {
		t.Errorf("Run(%q, %v, %d) = %d, %d, %d, want %d, %d, %d", text, args, fuel, n, steps, errno, want, wantSteps, wantErrno)
	}
}

func TestP2RightFunctions(t *testing.T) {
	for _, text := range []string{
		eight, loop, diamond,
		straight("v0 = const 0", "ret v0"),
		straight("v59 = const 2147483647", "ret v59"),
		straight("v7 = const -2147483648", "v3 = neg v7", "ret v3"),
		lines("func 4", "b0:", "v0 = arg 0", "v1 = arg 3", "v2 = arg 3", "ret v1"),
		// A block that stands ahead of the one that makes what it uses.
		lines("func 0", "b0:", "jump b2", "b1:", "ret v0", "b2:", "v0 = const 1", "jump b1"),
		// What is made ahead of a loop is made on every way within it.
		lines("func 0", "b0:", "v0 = const 1", "jump b1", "b1:", "v1 = neg v0", "if v1 b1 b2", "b2:", "v2 = add v0 v1", "ret v2"),
		// Two edges from one block to one block, and a phi of itself.
		lines("func 0", "b0:", "v0 = const 1", "if v0 b1 b1", "b1:", "v1 = phi v0 v0 v1", "jump b1"),
		// A jump's edge comes behind those of earlier blocks, though it was come to first.
		lines("func 0", "b0:", "v0 = const 1", "jump b2", "b1:", "v1 = const 2", "jump b3",
			"b2:", "v2 = const 3", "if v0 b1 b3", "b3:", "v3 = phi v1 v2", "ret v3"),
	} {
		wantCheck(t, text, api.OK)
	}
}

func TestP2NotRight(t *testing.T) {
	for _, text := range []string{
		// Made twice: in one block, in two, and by a phi.
		straight("v0 = const 1", "v0 = const 1", "ret v0"),
		lines("func 0", "b0:", "v0 = const 1", "jump b1", "b1:", "v0 = const 1", "ret v0"),
		lines("func 0", "b0:", "v0 = const 1", "jump b1", "b1:", "v0 = phi v0", "ret v0"),
		// No such block; block 0.
		straight("jump b1"),
		straight("jump b0"),
		straight("jump b9999999999"),
		straight("jump b4294967297", "b1:", "v0 = const 1", "ret v0"),
		lines("func 0", "b0:", "v0 = const 1", "if v0 b1 b2", "b1:", "ret v0"),
		lines("func 0", "b0:", "v0 = const 1", "if v0 b1 b1", "b1:", "if v0 b0 b1"),
		// A block that can't be come to, even one that comes to itself.
		straight("v0 = const 1", "ret v0", "b1:", "ret v0"),
		straight("v0 = const 1", "ret v0", "b1:", "jump b2", "b2:", "jump b1"),
		// Phis: in block 0; too few, and too many.
		straight("v0 = phi", "v1 = const 1", "ret v1"),
		lines("func 0", "b0:", "v0 = const 1", "jump b1", "b1:", "v1 = phi", "ret v1"),
		lines("func 0", "b0:", "v0 = const 1", "if v0 b1 b1", "b1:", "v1 = phi v0", "ret v1"),
		lines("func 0", "b0:", "v0 = const 1", "jump b1", "b1:", "v1 = phi v0 v0", "ret v1"),
		// Never made; made behind; made on one way only.
		straight("ret v0"),
		straight("v0 = neg v0", "ret v0"),
		straight("v0 = add v1 v1", "v1 = const 1", "ret v0"),
		lines("func 0", "b0:", "if v0 b1 b1", "b1:", "v0 = const 1", "ret v0"),
		lines("func 0", "b0:", "v0 = const 1", "if v0 b1 b2", "b1:", "v1 = const 2", "jump b2", "b2:", "ret v1"),
		// Made in the loop, used ahead of that in the loop.
		lines("func 0", "b0:", "v0 = const 1", "jump b1", "b1:", "v1 = neg v2", "v2 = neg v0", "jump b1"),
		// A phi's value belongs to the end of another block than the one that makes it.
		lines("func 0", "b0:", "v0 = const 1", "jump b1", "b1:", "v1 = phi v1 v0", "jump b1"),
		strings.Replace(diamond, "phi v2 v3", "phi v3 v2", 1),
		lines("func 0", "b0:", "v0 = const 1", "jump b2", "b1:", "v1 = const 2", "jump b3",
			"b2:", "v2 = const 3", "if v0 b1 b3", "b3:", "v3 = phi v0 v1", "ret v3"),
	} {
		wantCheck(t, text, api.ErrForm)
	}
}

func TestP2NoFunction(t *testing.T) {
	for _, text := range []string{
		"", "\n", "func", "func 0", "func 0\n", "func 0\nb0:", "func 0\nb0:\n", "\x00", "\xff\xfe",
		"func 5\nb0:\nv0 = const 1\nret v0\n", "func 10000000000\nb0:\nv0 = const 1\nret v0\n",
		"func  0\nb0:\nv0 = const 1\nret v0\n", "func 0\r\nb0:\nv0 = const 1\nret v0\n",
		"func 0\n\nb0:\nv0 = const 1\nret v0\n", "func 0\nb1:\nv0 = const 1\nret v0\n",
		"func 0\nb00:\nv0 = const 1\nret v0\n", "func 0\nb0\nv0 = const 1\nret v0\n",
		"func 0\nB0:\nv0 = const 1\nret v0\n", "func 0\nb0: \nv0 = const 1\nret v0\n",
		eight[:len(eight)-1], eight + "\n", " " + eight, eight + "x", eight + eight,
		eight + "ret v0\n", eight + "b0:\nret v0\n", eight + "b2:\nret v0\n", eight + "b1:\n",
		lines("func 0", "b0:", "v0 = arg 0", "ret v0"),
		lines("func 4", "b0:", "v0 = arg 4", "ret v0"),
		lines("func 4", "b0:", "v0 = arg -1", "ret v0"),
		straight("v60 = const 1", "ret v60"),
		straight("v0 = const 1", "ret v60"),
		straight("v0 = const 1", "v1 = neg v60", "ret v0"),
		straight("v4294967296 = const 1", "ret v0"),
		straight("v0 = const 2147483648", "ret v0"),
		straight("v0 = const -2147483649", "ret v0"),
		straight("v0 = const 4294967297", "ret v0"),
		straight("v0 = const 10000000000", "ret v0"),
		straight("v0 = const 18446744073709551617", "ret v0"),
		straight("v0 = const -0", "ret v0"),
		straight("v0 = const 00", "ret v0"),
		straight("v0 = const 07", "ret v0"),
		straight("v0 = const --7", "ret v0"),
		straight("v0 = const +7", "ret v0"),
		straight("v0 = const - 7", "ret v0"),
		straight("v0 = const ", "ret v0"),
		straight("v0 = const 1 ", "ret v0"),
		straight("v0 = const 1", " ret v0"),
		straight("v0  = const 1", "ret v0"),
		straight("v0=const 1", "ret v0"),
		straight("v0 = const\t1", "ret v0"),
		straight("v0 = constant 1", "ret v0"),
		straight("v0 = Const 1", "ret v0"),
		straight("v = const 1", "ret v0"),
		straight("v0 = ", "ret v0"),
		straight("v0 = const 1", "v1 = add v0", "ret v0"),
		straight("v0 = const 1", "v1 = add v0 v0 v0", "ret v0"),
		straight("v0 = const 1", "v1 = not", "ret v0"),
		straight("v0 = const 1", "v1 = not v0 v0", "ret v0"),
		straight("v0 = const 1", "v1 = mod v0 v0", "ret v0"),
		straight("v0 = const 1", "v1 = addv0 v0", "ret v0"),
		straight("v0 = const 1", "v1 = add v0 0", "ret v0"),
		straight("v0 = const 1", "ret"),
		straight("v0 = const 1", "ret 0"),
		straight("v0 = const 1", "ret v0 v0"),
		straight("v0 = const 1", "jump 1"),
		straight("v0 = const 1", "jump b01", "b1:", "ret v0"),
		straight("v0 = const 1", "jump b10000000000", "b1:", "ret v0"),
		straight("v0 = const 1", "if v0 b1", "b1:", "ret v0"),
		straight("v0 = const 1", "if v0 b1 b1 b1", "b1:", "ret v0"),
		straight("v0 = const 1", "halt"),
		straight("v0 = const 1", "b1:", "ret v0"),
		straight("v0 = const 1", "jump b1", "b1:", "v1 = phix v0", "ret v0"),
		straight("v0 = const 1", "jump b1", "b1:", "v1 = phi ", "ret v0"),
		straight("v0 = const 1", "jump b1", "b1:", "v1 = phi 0", "ret v0"),
		// A phi behind a value.
		straight("v0 = const 1", "jump b1", "b1:", "v1 = const 1", "v2 = phi v0", "ret v0"),
		straight("v0 = const 1", "jump b1", "b1:", "v1 = phi v0", "v2 = const 1", "v3 = phi v0", "ret v0"),
		// Not right ahead of where the text is no function: the error named first.
		straight("v0 = const 1", "v0 = const 1", "jump b0", "b1:", "ret"),
		straight("jump b7", "b1:", "ret v1 "),
	} {
		wantCheck(t, text, api.ErrText)
	}
}

func TestP2Blocks(t *testing.T) {
	chain := func(n int) string {
		text := straight("v0 = const 1")
		for i := 1; i < n; i++ {
			text += "jump b" + string(rune('0'+i)) + "\nb" + string(rune('0'+i)) + ":\n"
		}
		return text + "ret v0\n"
	}
	wantCheck(t, chain(api.MaxBlocks), api.OK)
	wantCheck(t, chain(api.MaxBlocks+1), api.ErrText)
}

// A function that is right in all but its length.
func ofLength(t *testing.T, length int) string {
	t.Helper()
	text := "func 0\nb0:\n"
	number := func(i int) string { return strings.TrimPrefix(string([]byte{'0' + byte(i/10), '0' + byte(i%10)}), "0") }
	for i := range api.MaxValues - 1 {
		text += "v" + number(i) + " = const -2147483648\n"
	}
	for i := 1; i <= 5; i++ {
		text += "jump b" + number(i) + "\nb" + number(i) + ":\n"
	}
	digits := length - len(text) - len("v59 = const \nret v0\n")
	if digits < 1 || digits > 9 {
		t.Fatalf("%d digits are left for a text of %d bytes", digits, length)
	}
	return text + "v59 = const " + strings.Repeat("1", digits) + "\nret v0\n"
}

func TestP2Length(t *testing.T) {
	wantCheck(t, ofLength(t, api.MaxText-1), api.OK)
	wantCheck(t, ofLength(t, api.MaxText), api.OK)
	wantCheck(t, ofLength(t, api.MaxText+1), api.ErrText)
	// Too long a text that isn't right.
	wantCheck(t, strings.Replace(ofLength(t, api.MaxText+1), "v1 =", "v2 =", 1), api.ErrText)
	wantCheck(t, strings.Repeat("v", 1<<20), api.ErrText)
}

func TestP2Weight(t *testing.T) {
	for text, want := range map[string]int{
		eight:                              13,
		loop:                               10,
		diamond:                            6,
		ofLength(t, api.MaxText):           60,
		straight("v0 = const 0", "ret v0"): 1,
		lines("func 1", "b0:", "v0 = arg 0", "jump b1", "b1:", "v1 = phi v0", "ret v1"): 0,
	} {
		if got, errno := ir.Weight(text); got != want || errno != api.OK {
			t.Errorf("Weight(%q) = %d, %d, want %d", text, got, errno, want)
		}
	}
	for op, want := range map[string]int{"add": 4, "sub": 4, "mul": 12, "div": 20, "and": 4, "or": 4, "xor": 4, "shl": 5, "shr": 5, "eq": 4, "lt": 4} {
		text := lines("func 1", "b0:", "v0 = arg 0", "v1 = "+op+" v0 v0", "ret v1")
		if got, errno := ir.Weight(text); got != want || errno != api.OK {
			t.Errorf("%s weighs %d, %d, want %d", op, got, errno, want)
		}
	}
	for _, op := range []string{"neg", "not"} {
		text := lines("func 1", "b0:", "v0 = arg 0", "v1 = "+op+" v0", "ret v1")
		if got, errno := ir.Weight(text); got != 3 || errno != api.OK {
			t.Errorf("%s weighs %d, %d, want 3", op, got, errno)
		}
	}
}

func TestP3Arguments(t *testing.T) {
	for _, args := range [][]int{nil, {}, {1, 2}, {math.MaxInt32 + 1}, {math.MinInt32 - 1}, {math.MaxInt}, {math.MinInt}, {1 << 32}} {
		wantRun(t, eight, args, 9, 0, 0, api.ErrArg)
	}
	for _, fuel := range []int{-1, api.MaxFuel + 1, math.MinInt, math.MaxInt} {
		wantRun(t, eight, []int{1}, fuel, 0, 0, api.ErrArg)
	}
	wantRun(t, eight, []int{math.MaxInt32}, api.MaxFuel, -8, 4, api.OK)
	wantRun(t, eight, []int{math.MinInt32}, api.MaxFuel, 0, 4, api.OK)
	// Arguments that nothing uses are asked for all the same.
	unused := lines("func 2", "b0:", "v0 = arg 1", "ret v0")
	wantRun(t, unused, []int{3, 4}, 2, 4, 2, api.OK)
	wantRun(t, unused, []int{1 << 40, 4}, 2, 0, 0, api.ErrArg)
	// The function's fault is named first.
	wantRun(t, "", []int{1 << 40}, -1, 0, 0, api.ErrText)
	wantRun(t, straight("ret v0"), []int{1 << 40}, -1, 0, 0, api.ErrForm)
}

func TestP3StepsAndFuel(t *testing.T) {
	wantRun(t, eight, []int{5}, 9, 40, 4, api.OK)
	wantRun(t, loop, []int{4}, 100, 10, 32, api.OK)
	wantRun(t, diamond, []int{1, 5}, 100, -5, 7, api.OK)
	wantRun(t, diamond, []int{0, 5}, 100, -6, 7, api.OK)
	wantRun(t, diamond, []int{math.MinInt32, 5}, 100, -5, 7, api.OK)
	for fuel := range 32 {
		wantRun(t, loop, []int{4}, fuel, 0, fuel, api.ErrFuel)
	}
	wantRun(t, loop, []int{4}, 32, 10, 32, api.OK)
	endless := straight("jump b1", "b1:", "jump b1")
	wantRun(t, endless, nil, 0, 0, 0, api.ErrFuel)
	wantRun(t, endless, nil, api.MaxFuel, 0, api.MaxFuel, api.ErrFuel)
}

func TestP3Trap(t *testing.T) {
	divide := lines("func 2", "b0:", "v0 = arg 0", "v1 = arg 1", "v2 = div v0 v1", "v3 = not v0", "ret v3")
	wantRun(t, divide, []int{7, 2}, 9, -8, 5, api.OK)
	// It traps, though nothing uses it; with the least fuel; and with less.
	wantRun(t, divide, []int{7, 0}, 9, 0, 3, api.ErrTrap)
	wantRun(t, divide, []int{0, 0}, 3, 0, 3, api.ErrTrap)
	wantRun(t, divide, []int{7, 0}, 2, 0, 2, api.ErrFuel)
	// A div that isn't come to.
	aside := lines("func 1", "b0:", "v0 = arg 0", "if v0 b1 b2", "b1:", "v1 = div v0 v0", "ret v1", "b2:", "ret v0")
	wantRun(t, aside, []int{0}, 9, 0, 3, api.OK)
	wantRun(t, aside, []int{-3}, 9, 1, 4, api.OK)
}

func TestP3Phis(t *testing.T) {
	// Two that swap at each turn.
	swap := lines("func 1", "b0:", "v0 = arg 0", "v1 = const 7", "v2 = const 9", "v3 = const -1", "jump b1",
		"b1:", "v4 = phi v0 v7", "v5 = phi v1 v6", "v6 = phi v2 v5", "if v4 b2 b3",
		"b2:", "v7 = add v4 v3", "jump b1", "b3:", "ret v5")
	for n := range 5 {
		wantRun(t, swap, []int{n}, 100, 7+2*(n%2), 5+6*n+4+1, api.OK)
	}
	// Both ways of an if to one block.
	both := lines("func 1", "b0:", "v0 = arg 0", "v1 = const 7", "v2 = const 9", "if v0 b1 b1", "b1:", "v3 = phi v1 v2", "ret v3")
	wantRun(t, both, []int{1}, 9, 7, 6, api.OK)
	wantRun(t, both, []int{0}, 9, 9, 6, api.OK)
	// Edges go by the order of the blocks, not by that in which they are come to.
	order := lines("func 1", "b0:", "v0 = arg 0", "jump b2", "b1:", "v1 = const 2", "jump b3",
		"b2:", "v2 = const 3", "if v0 b3 b1", "b3:", "v3 = phi v1 v2", "ret v3")
	wantRun(t, order, []int{1}, 9, 3, 6, api.OK)
	wantRun(t, order, []int{0}, 9, 2, 8, api.OK)
}

func TestP1Lists(t *testing.T) {
	memory := []int{4, 77, 78}
	first, _, _ := ir.Run(loop, memory[:1], 100)
	if !slices.Equal(memory, []int{4, 77, 78}) {
		t.Errorf("what was handed in became %v", memory)
	}
	memory[0] = 3
	second, _, _ := ir.Run(loop, []int{4}, 100)
	if first != 10 || second != 10 {
		t.Errorf("twice the same call: %d, %d, want 10, 10", first, second)
	}
}
