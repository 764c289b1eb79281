package chisel_test

import (
	"math"
	"slices"
	"strconv"
	"strings"
	"testing"

	"chisel/api"
	"chisel/chisel"
	"chisel/ir"
)

// straight is a function of one block with two arguments, v0 and v1.
func straight(l ...string) string {
	return lines("func 2", "b0:", "v0 = arg 0", "v1 = arg 1") + lines(l...)
}

// bare is the same without its arguments.
func bare(l ...string) string { return lines("func 2", "b0:") + lines(l...) }

func wantRewrite(t *testing.T, rules, text string, picks []int, want string, steps int, errno api.Errno) {
	t.Helper()
	if check := ir.Check(text); check != api.OK {
		t.Fatalf("the test's own function %q: %d", text, check)
	}
	got, gotSteps, gotErrno := chisel.Rewrite(rules, text, picks)
	if got != want || gotSteps != steps || gotErrno != errno {
		t.Errorf("Rewrite(%q, %q, %v) = %q, %d, %d, want %q, %d, %d", rules, text, picks, got, gotSteps, gotErrno, want, steps, errno)
	}
}

func wantOK(t *testing.T, rules, text string, picks []int, steps int, want string) {
	t.Helper()
	wantRewrite(t, rules, text, picks, want, steps, api.OK)
}

func wantSame(t *testing.T, rules, text string) {
	t.Helper()
	wantOK(t, rules, text, nil, 0, text)
}

func TestP5Errors(t *testing.T) {
	right := straight("ret v0")
	for _, c := range []struct {
		rules, text string
		errno       api.Errno
	}{
		{"x\n", "", api.ErrRule}, {"(add x y) => z\n", "", api.ErrBound}, {"\n(neg x) => (neg x)\n", straight("ret v5"), api.ErrHeavy},
		{"x\n", right, api.ErrRule}, {"(add x 0) => x", right, api.ErrRule}, {strings.Repeat("\n", api.MaxRules+1), right, api.ErrRule},
		{"", "", api.ErrText}, {"(add x 0) => x\n", right + "\n", api.ErrText}, {"", strings.Repeat("x", api.MaxText+1), api.ErrText},
		{"", straight("ret v5"), api.ErrForm}, {"(add x 0) => x\n", straight("jump b1"), api.ErrForm},
	} {
		text, steps, errno := chisel.Rewrite(c.rules, c.text, []int{3})
		if text != "" || steps != 0 || errno != c.errno {
			t.Errorf("Rewrite(%.60q, %.60q) = %q, %d, %d, want %d", c.rules, c.text, text, steps, errno, c.errno)
		}
	}
}

// Where no rule fits, nothing goes: not even what nothing uses.
func TestP5NothingFits(t *testing.T) {
	unused := straight("v2 = const 8", "v3 = mul v2 v0", "v9 = neg v3", "ret v0")
	wantSame(t, "", unused)
	wantSame(t, ";\n\n", unused)
	wantSame(t, "(mul x 8) => x\n", unused)
	loop := lines("func 3", "b0:", "v0 = arg 2", "v1 = const -2147483648", "v2 = const 2147483647", "jump b1",
		"b1:", "v3 = phi v0 v5", "v4 = phi v1 v6", "if v3 b2 b3",
		"b2:", "v5 = shr v3 v2", "v6 = lt v4 v3", "jump b1", "b3:", "v59 = not v4", "ret v59")
	wantSame(t, "(add x y) => x\n", loop)
}

func TestP5WhatFits(t *testing.T) {
	fits := func(rules, line string) {
		t.Helper()
		wantOK(t, rules+"\n", straight("v2 = const 4", "v3 = const 4", "v4 = const -5", "v5 = neg v0", "v6 = neg v0", line, "ret v7"), nil, 1, bare("v7 = const 9", "ret v7"))
	}
	fitsNot := func(rules, line string) {
		t.Helper()
		wantSame(t, rules+"\n", straight("v2 = const 4", "v3 = const 4", "v4 = const -5", "v5 = neg v0", "v6 = neg v0", line, "ret v7"))
	}
	// Operations, numbers, consts.
	fits("(add x y) => 9", "v7 = add v0 v0")
	fitsNot("(add x y) => 9", "v7 = sub v0 v0")
	fits("(add x 4) => 9", "v7 = add v0 v2")
	fits("(add x -5) => 9", "v7 = add v0 v4")
	fitsNot("(add x 5) => 9", "v7 = add v0 v4")
	fitsNot("(add x 4) => 9", "v7 = add v2 v0")
	fitsNot("(add x 0) => 9", "v7 = add v0 v1")
	fits("(add #a #b) => 9", "v7 = add v2 v4")
	fitsNot("(add #a #b) => 9", "v7 = add v2 v1")
	fitsNot("(add #a #b) => 9", "v7 = add v5 v4")
	// A name twice: the same v number; with #, the same number.
	fits("(add x x) => 9", "v7 = add v1 v1")
	fitsNot("(add x x) => 9", "v7 = add v0 v1")
	fitsNot("(add x x) => 9", "v7 = add v2 v3")
	fitsNot("(add x x) => 9", "v7 = add v5 v6")
	fits("(add #x #x) => 9", "v7 = add v2 v3")
	fits("(add #x #x) => 9", "v7 = add v4 v4")
	fitsNot("(add #x #x) => 9", "v7 = add v2 v4")
	fitsNot("(add #x #x) => 9", "v7 = add v0 v0")
	// Two names may be the same value.
	fits("(add x y) => 9", "v7 = add v2 v2")
	fits("(add #x #y) => 9", "v7 = add v2 v2")
	// Nodes within.
	fits("(add (neg x) (neg x)) => 9", "v7 = add v5 v6")
	fits("(add (neg x) x) => 9", "v7 = add v5 v0")
	fitsNot("(add (neg x) x) => 9", "v7 = add v5 v5")
	fitsNot("(add (neg x) x) => 9", "v7 = add v0 v5")
	fitsNot("(add (neg x) y) => 9", "v7 = add v2 v5")
	fitsNot("(add (not x) y) => 9", "v7 = add v5 v0")
	// A name that didn't fit at one value is free at the next.
	wantOK(t, "(add x x) => 9\n", straight("v2 = add v0 v1", "v3 = add v1 v1", "v4 = sub v2 v3", "ret v4"), nil, 1,
		straight("v2 = add v0 v1", "v3 = const 9", "v4 = sub v2 v3", "ret v4"))
}

func TestP5DeepNode(t *testing.T) {
	values := []string{"v2 = const 3", "v3 = const 5", "v4 = shl v0 v2", "v5 = xor v4 v1", "v6 = not v5", "v7 = sub v3 v6", "ret v7"}
	wantOK(t, "(sub #a (not (xor (shl x #b) y))) => !(mul #a #b)\n", straight(values...), nil, 1, bare("v7 = const 15", "ret v7"))
	wantOK(t, "(sub #a (not (xor (shl x #b) y))) => y\n", straight(values...), nil, 1, bare("v1 = arg 1", "ret v1"))
	wantOK(t, "(sub #a (not (xor (shl x #b) y))) => b\n", straight(values...), nil, 1, bare("v2 = const 3", "ret v2"))
	wantSame(t, "(sub #a (not (xor (shl x #a) y))) => y\n", straight(values...))
	wantSame(t, "(sub #a (not (xor (shl x #b) x))) => 1\n", straight(values...))
}

func TestP5Results(t *testing.T) {
	// A name: the value goes, and each use of it is one of the other.
	wantOK(t, "(add x 0) => x\n", straight("v2 = const 0", "v3 = add v1 v2", "v4 = mul v3 v3", "v5 = sub v4 v3", "ret v5"), nil, 1,
		bare("v1 = arg 1", "v4 = mul v1 v1", "v5 = sub v4 v1", "ret v5"))
	// Numbers stand under the value's own number.
	wantOK(t, "(sub x x) => -2147483648\n", straight("v2 = sub v1 v1", "v3 = add v2 v0", "ret v3"), nil, 1,
		bare("v0 = arg 0", "v2 = const -2147483648", "v3 = add v2 v0", "ret v3"))
	same := straight("v2 = const 4", "v3 = const 4", "v4 = sub v3 v2", "ret v4")
	wantOK(t, "(sub #a #a) => #a\n", same, nil, 1, bare("v4 = const 4", "ret v4"))
	// Without #: the first from the left.
	wantOK(t, "(sub #a #a) => a\n", same, nil, 1, bare("v3 = const 4", "ret v3"))
	deep := straight("v2 = const 4", "v3 = const 4", "v4 = const 4", "v5 = add v0 v4", "v6 = sub v5 v2", "v7 = mul v6 v3", "ret v7")
	wantOK(t, "(mul (sub (add x #a) #a) #a) => a\n", deep, nil, 1, bare("v4 = const 4", "ret v4"))
	wantOK(t, "(mul (sub (add x #a) #a) #a) => (add x a)\n", deep, nil, 1, bare("v0 = arg 0", "v4 = const 4", "v7 = add v0 v4", "ret v7"))
	wantOK(t, "(mul (sub (add x #a) #a) #a) => (add #a a)\n", deep, nil, 1, bare("v4 = const 4", "v8 = const 4", "v7 = add v8 v4", "ret v7"))
	// What is new: from left to right, the inner ahead, with the least numbers that are free ahead of the step.
	wantOK(t, "(mul x y) => (sub (neg y) (add x y))\n", straight("v3 = const 1", "v9 = mul v0 v1", "v5 = add v9 v3", "ret v5"), nil, 1,
		straight("v3 = const 1", "v2 = neg v1", "v4 = add v0 v1", "v9 = sub v2 v4", "v5 = add v9 v3", "ret v5"))
	wantOK(t, "(mul x 5) => (add (sub 6 x) 7)\n", straight("v2 = const 5", "v4 = mul v1 v2", "ret v4"), nil, 1,
		bare("v1 = arg 1", "v3 = const 6", "v5 = sub v3 v1", "v6 = const 7", "v4 = add v5 v6", "ret v4"))
	// A result that says the same thing twice makes it twice.
	wantOK(t, "(mul x y) => (add (neg x) (neg x))\n", straight("v2 = mul v1 v0", "ret v2"), nil, 1,
		bare("v1 = arg 1", "v3 = neg v1", "v4 = neg v1", "v2 = add v3 v4", "ret v2"))
}

func TestP5Reckoned(t *testing.T) {
	for _, c := range []struct {
		result string
		want   string
	}{
		{"!(add #a #b)", "2147483642"}, {"!(sub #a #b)", "-2147483644"}, {"!(mul #a #a)", "1"}, {"!(and #a #b)", "2147483643"},
		{"!(or #a #b)", "-1"}, {"!(xor #a #b)", "-2147483644"}, {"!(shl #b 30)", "-1073741824"}, {"!(shr #b #a)", "-1"},
		{"!(eq #a #a)", "1"}, {"!(eq #a #b)", "0"}, {"!(lt #a #b)", "0"}, {"!(lt #b #a)", "1"}, {"!(neg #b)", "5"}, {"!(not #b)", "4"},
		{"!(sub !(neg !(add 1 2)) !(not #b))", "-7"}, {"!(neg -2147483648)", "-2147483648"},
	} {
		wantOK(t, "(add #a #b) => "+c.result+"\n", straight("v2 = const 2147483647", "v3 = const -5", "v4 = add v2 v3", "ret v4"), nil, 1,
			bare("v4 = const "+c.want, "ret v4"))
	}
	// Within, it is a new const, and what it is of is not.
	wantOK(t, "(mul x #a) => (add (neg x) !(add 1 !(neg #a)))\n", straight("v2 = const 5", "v3 = mul v1 v2", "ret v3"), nil, 1,
		bare("v1 = arg 1", "v4 = neg v1", "v5 = const -4", "v3 = add v4 v5", "ret v3"))
}

func TestP5WhatGoes(t *testing.T) {
	// Again and again; args and consts too, wherever they stand; divs stay, and what they use.
	wantOK(t, "(add x 0) => x\n", straight("v2 = const 0", "v3 = div v0 v2", "v4 = neg v1", "v5 = not v4", "v6 = const 7", "v7 = div v6 v6", "v8 = add v3 v2", "v9 = mul v8 v8", "ret v0"), nil, 1,
		bare("v0 = arg 0", "v2 = const 0", "v3 = div v0 v2", "v6 = const 7", "v7 = div v6 v6", "ret v0"))
	// The value itself, if nothing uses it, and all that was made for it.
	wantOK(t, "(mul x y) => (add (neg x) 1)\n", straight("v2 = mul v0 v1", "ret v0"), nil, 1, bare("v0 = arg 0", "ret v0"))
	// Values that something else uses stay.
	wantOK(t, "(neg (neg x)) => x\n", straight("v2 = neg v0", "v3 = neg v2", "v4 = add v3 v2", "ret v4"), nil, 1,
		bare("v0 = arg 0", "v2 = neg v0", "v4 = add v0 v2", "ret v4"))
	// What went may come again under the same number.
	wantOK(t, "(mul x 8) => (shl x 3)\n", straight("v2 = const 8", "v4 = mul v0 v2", "v3 = const 8", "v5 = mul v4 v3", "ret v5"), nil, 2,
		bare("v0 = arg 0", "v6 = const 3", "v4 = shl v0 v6", "v1 = const 3", "v5 = shl v4 v1", "ret v5"))
}

func TestP5Phis(t *testing.T) {
	text := func(phis ...string) string {
		return lines("func 1", "b0:", "v0 = arg 0", "jump b1", "b1:") + lines(phis...) + lines("v20 = sub v0 v0", "if v20 b1 b2", "b2:", "ret v0")
	}
	behind := func(phis ...string) string {
		return lines("func 1", "b0:", "v0 = arg 0", "jump b1", "b1:") + lines(phis...) + lines("v20 = const 0", "if v20 b1 b2", "b2:", "ret v0")
	}
	// One of itself, a ring of two, and one that hangs on a ring; another goes, and what only it used.
	wantOK(t, "(sub x x) => 0\n", text("v1 = phi v0 v1", "v2 = phi v0 v3", "v3 = phi v0 v2", "v4 = phi v0 v2", "v5 = phi v0 v4", "v6 = phi v0 v7", "v7 = phi v0 v1"), nil, 1,
		behind("v1 = phi v0 v1", "v2 = phi v0 v3", "v3 = phi v0 v2"))
	// A ring that goes through a value stays too.
	wantOK(t, "(sub x x) => 0\n", text("v1 = phi v0 v2", "v2 = neg v1"), nil, 1, behind("v1 = phi v0 v2", "v2 = neg v1"))
	// A phi fits a name, and a phi's use becomes another; nothing goes through a phi.
	wantOK(t, "(add x 0) => x\n(neg (neg x)) => x\n", lines("func 1", "b0:", "v0 = arg 0", "v1 = const 0", "v2 = add v0 v1", "v3 = neg v0", "jump b1",
		"b1:", "v4 = phi v2 v6", "v5 = phi v3 v5", "v6 = add v4 v1", "v7 = neg v5", "if v6 b1 b2", "b2:", "ret v7"), nil, 2,
		lines("func 1", "b0:", "v0 = arg 0", "v3 = neg v0", "jump b1", "b1:", "v4 = phi v0 v4", "v5 = phi v3 v5", "v7 = neg v5", "if v4 b1 b2", "b2:", "ret v7"))
}

func TestP5Blocks(t *testing.T) {
	// Nodes go through blocks, what is new stands in the value's, and uses are everywhere.
	text := lines("func 1", "b0:", "v0 = arg 0", "v1 = const 0", "v2 = add v0 v1", "if v2 b1 b2",
		"b1:", "v3 = const 3", "v4 = mul v2 v3", "jump b2", "b2:", "v5 = phi v2 v4", "v6 = add v5 v1", "ret v6")
	wantOK(t, "(add x 0) => x\n(mul x #a) => (shl x #a)\n", text, nil, 3,
		lines("func 1", "b0:", "v0 = arg 0", "if v0 b1 b2", "b1:", "v2 = const 3", "v4 = shl v0 v2", "jump b2", "b2:", "v5 = phi v0 v4", "ret v5"))
	// The order of values is that of the text, not that of a run.
	backward := lines("func 1", "b0:", "v0 = arg 0", "jump b2", "b1:", "v1 = neg v0", "ret v1", "b2:", "v2 = not v0", "jump b1")
	rules := "(not x) => 1\n(neg x) => 2\n"
	end := lines("func 1", "b0:", "jump b2", "b1:", "v1 = const 2", "ret v1", "b2:", "jump b1")
	wantOK(t, rules, backward, []int{0}, 1, end)
	wantOK(t, rules, backward, []int{1}, 2, end)
}

func TestP5Picks(t *testing.T) {
	// Four pairs, then two, then none.
	text := straight("v2 = add v0 v1", "v3 = add v1 v0", "v4 = sub v2 v3", "ret v4")
	rules := "(add x y) => x\n;\n(add x y) => y\n"
	ends := map[string]string{
		"v0 v1": straight("v4 = sub v0 v1", "ret v4"), "v1 v0": straight("v4 = sub v1 v0", "ret v4"),
		"v0 v0": bare("v0 = arg 0", "v4 = sub v0 v0", "ret v4"), "v1 v1": bare("v1 = arg 1", "v4 = sub v1 v1", "ret v4"),
	}
	for _, c := range []struct {
		picks []int
		end   string
	}{
		{nil, "v0 v1"}, {[]int{}, "v0 v1"}, {[]int{0, 0}, "v0 v1"}, {[]int{0, 1}, "v0 v0"}, {[]int{1}, "v1 v1"}, {[]int{1, 1}, "v1 v0"},
		{[]int{2, 0}, "v0 v1"}, {[]int{2, 1}, "v1 v1"}, {[]int{3, 0}, "v0 v0"}, {[]int{3, 1}, "v1 v0"},
		{[]int{4, 2}, "v0 v1"}, {[]int{5, 3}, "v1 v0"}, {[]int{-1, -1}, "v1 v0"}, {[]int{-2, -2}, "v0 v1"}, {[]int{-3}, "v1 v1"}, {[]int{-4, -3}, "v0 v0"},
		{[]int{math.MaxInt, math.MaxInt}, "v1 v0"}, {[]int{math.MinInt, math.MinInt}, "v0 v1"}, {[]int{math.MinInt + 1, math.MinInt + 1}, "v1 v0"},
		{[]int{1, 0, 1, 1, 1}, "v1 v1"},
	} {
		wantOK(t, rules, text, c.picks, 2, ends[c.end])
	}
	// Seven pairs: a number that no other n shares its rests with.
	seven := "(neg x) => 0\n(neg x) => 1\n(neg x) => 2\n(neg x) => 3\n(neg x) => 4\n(neg x) => 5\n(neg x) => 6\n"
	for pick := -20; pick <= 20; pick++ {
		wantOK(t, seven, straight("v2 = neg v0", "ret v2"), []int{pick}, 1, bare("v2 = const "+strconv.Itoa((pick+21)%7), "ret v2"))
	}
}

// full has all v numbers but the last ones, of which it leaves so many free.
// The values beside the mul are divs, so that none goes.
func full(free int) string {
	text := "func 1\nb0:\nv0 = arg 0\nv1 = const 8\n"
	for i := 2; i < api.MaxValues-1-free; i++ {
		text += "v" + strconv.Itoa(i) + " = div v0 v0\n"
	}
	return text + "v" + strconv.Itoa(api.MaxValues-1-free) + " = mul v0 v1\nret v" + strconv.Itoa(api.MaxValues-1-free) + "\n"
}

func TestP5RoomForValues(t *testing.T) {
	none, one := full(0), full(1)
	behind := func(text, from, to string) string {
		return strings.Replace(strings.Replace(text, "v1 = const 8\n", "", 1), from, to, 1)
	}
	wantOK(t, "(mul x 8) => (neg x)\n", none, nil, 1, behind(none, "mul v0 v1", "neg v0"))
	wantOK(t, "(mul x 8) => 5\n", none, nil, 1, behind(none, "mul v0 v1", "const 5"))
	wantOK(t, "(mul x 8) => x\n", none, nil, 1, behind(strings.Replace(none, "v59 = mul v0 v1\n", "", 1), "ret v59", "ret v0"))
	// That v1 would go makes no room.
	wantRewrite(t, "(mul x 8) => (shl x 3)\n", none, nil, none, 0, api.ErrRoom)
	wantRewrite(t, "(mul x #a) => (shl x !(neg #a))\n", none, []int{5, 6}, none, 0, api.ErrRoom)
	wantOK(t, "(mul x 8) => (shl x 3)\n", one, nil, 1, behind(one, "v58 = mul v0 v1", "v59 = const 3\nv58 = shl v0 v59"))
	wantRewrite(t, "(mul x 8) => (add (neg x) 3)\n", one, nil, one, 0, api.ErrRoom)
	wantOK(t, "(mul x 8) => (add (neg x) 3)\n", full(2), nil, 1, behind(full(2), "v57 = mul v0 v1", "v58 = neg v0\nv59 = const 3\nv57 = add v58 v59"))
	// Far too many.
	wantRewrite(t, "(mul x 8) => (add (add 0 1) 2)\n", one, nil, one, 0, api.ErrRoom)
	// Steps that were made ahead of it count, and are told; those that fit still are not made.
	wantRewrite(t, "(mul x y) => (shl x y)\n(shl x y) => (neg 3)\n(neg x) => x\n", none, nil, strings.Replace(none, "mul v0 v1", "shl v0 v1", 1), 1, api.ErrRoom)
	// Unused as it is, the value needs a number all the same.
	unused := strings.Replace(none, "ret v59", "ret v0", 1)
	wantRewrite(t, "(mul x 8) => (shl x 3)\n", unused, nil, unused, 0, api.ErrRoom)
}

// long has phis that use themselves, so that none goes, and is of that length.
func long(t *testing.T, length int) string {
	t.Helper()
	head := "func 1\nb0:\nv0 = arg 0\nv1 = const 8\njump b1\nb1:\n"
	tail := "v2 = mul v0 v1\nif v2 b2 b1\n"
	for b := 2; b < api.MaxBlocks; b++ {
		next := strconv.Itoa(max(1, (b+1)%api.MaxBlocks))
		tail += "b" + strconv.Itoa(b) + ":\nif v0 b" + next + " b1\n"
	}
	for i := 10; len(head)+len(tail) <= length-2*45; i++ {
		v := " v" + strconv.Itoa(i)
		head += v[1:] + " = phi v0" + strings.Repeat(v, api.MaxBlocks) + "\n"
	}
	// What is lacking: divs, and the digits of two consts.
	odd := ""
	digits := length - len(head) - len(tail) - len("v3 = const 1\nv4 = const 1\nv5 = div v3 v4\n")
	for i := 6; digits > 18; i++ {
		more := "v" + strconv.Itoa(i) + " = div v0 v0\n"
		odd += more
		digits -= len(more)
	}
	if digits < 0 {
		t.Fatalf("no text of %d bytes", length)
	}
	odd += "v3 = const 1" + strings.Repeat("2", digits/2) + "\n"
	odd += "v4 = const 1" + strings.Repeat("2", digits-digits/2) + "\nv5 = div v3 v4\n"
	return head + odd + tail
}

func TestP5RoomForText(t *testing.T) {
	const rules = "(mul x y) => (add (neg x) 16)\n"
	// v1 goes, and two lines come.
	step := func(text string) string {
		return strings.NewReplacer("v1 = const 8\n", "", "v2 = mul v0 v1\n", "N = neg v0\nM = const 16\nv2 = add N M\n").Replace(text)
	}
	numbered := func(text string) string {
		var free []string
		for i := 0; len(free) < 2; i++ {
			if v := "v" + strconv.Itoa(i); !strings.Contains(text, v+" =") && v != "v1" {
				free = append(free, v)
			}
		}
		return strings.NewReplacer("N", free[0], "M", free[1]).Replace(step(text))
	}
	seen := map[int]int{}
	for length := api.MaxText - 60; length <= api.MaxText; length++ {
		text := long(t, length)
		if len(text) != length {
			t.Fatalf("the test's text has %d bytes, not %d", len(text), length)
		}
		want := numbered(text)
		seen[len(want)]++
		if len(want) <= api.MaxText {
			wantOK(t, rules, text, nil, 1, want)
		} else {
			wantRewrite(t, rules, text, nil, text, 0, api.ErrRoom)
		}
	}
	if seen[api.MaxText] == 0 || seen[api.MaxText+1] == 0 {
		t.Errorf("the texts behind the step miss the limit: %v", seen)
	}
	// It is the text behind the step that counts: what goes makes room.
	whole := long(t, api.MaxText)
	wantOK(t, "(mul x y) => (shl x x)\n", whole, nil, 1, strings.NewReplacer("v1 = const 8\n", "", "mul v0 v1", "shl v0 v0").Replace(whole))
	wantOK(t, "(mul x y) => (neg (neg x))\n", strings.Replace(whole, "v2 b2", "v0 b2", 1), nil, 1,
		strings.NewReplacer("v1 = const 8\n", "", "v2 = mul v0 v1\n", "", "v2 b2", "v0 b2").Replace(whole))
	// A function that is as long as may be, and to which nothing is done.
	wantSame(t, "(sub x y) => x\n", whole)
	// A step ahead of the one that has no room.
	wantRewrite(t, "(mul x y) => (shl x x)\n(shl x y) => (neg -2147483648)\n", whole, nil, strings.NewReplacer("v1 = const 8\n", "", "mul v0 v1", "shl v0 v0").Replace(whole), 1, api.ErrRoom)
}

func TestP1PicksStayAsTheyAre(t *testing.T) {
	text := straight("v2 = add v0 v1", "v3 = add v1 v0", "v4 = sub v2 v3", "ret v4")
	memory := []int{-1, 7, 77, 78}
	first, _, _ := chisel.Rewrite("(add x y) => x\n(add x y) => y\n", text, memory[:1])
	if !slices.Equal(memory, []int{-1, 7, 77, 78}) {
		t.Errorf("what was handed in became %v", memory)
	}
	memory[0] = 0
	second, _, _ := chisel.Rewrite("(add x y) => x\n(add x y) => y\n", text, []int{-1})
	if first != second {
		t.Errorf("twice the same call: %q, %q", first, second)
	}
}
