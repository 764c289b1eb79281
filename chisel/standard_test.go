package chisel_test

import (
	"math"
	"math/rand"
	"strconv"
	"strings"
	"testing"

	"chisel/api"
	"chisel/chisel"
	"chisel/ir"
)

// shapes are those of which none is left, as P7 lists them.
var shapes = []string{
	"(add x 0)", "(add 0 x)", "(sub x 0)", "(sub x x)", "(mul x 0)", "(mul 0 x)", "(mul x 1)", "(mul 1 x)", "(mul x 8)",
	"(and x 0)", "(and x x)", "(or x 0)", "(or x x)", "(xor x x)", "(xor x 0)", "(shl x 0)", "(shr x 0)", "(eq x x)", "(lt x x)",
	"(neg (neg x))", "(not (not x))", "(sub 0 x)",
	"(add #a #b)", "(sub #a #b)", "(mul #a #b)", "(and #a #b)", "(or #a #b)", "(xor #a #b)", "(shl #a #b)", "(shr #a #b)",
	"(eq #a #b)", "(lt #a #b)", "(neg #a)", "(not #a)",
}

var edgeNumbers = []int{math.MinInt32, math.MinInt32 + 1, -65536, -33, -8, -1, 0, 1, 2, 7, 8, 31, 32, 1 << 28, 1 << 29, math.MaxInt32 - 1, math.MaxInt32}

// left is the shapes that fit some value of the function.
func left(text string) []string {
	var fitting []string
	b := words(text)
	for _, shape := range shapes {
		node := parsed(shape)
		for _, line := range b {
			if isValue(line) && b.fits(node, line[0], map[string]string{}) {
				fitting = append(fitting, shape)
				break
			}
		}
	}
	return fitting
}

// frame is a function of two arguments but for a shape, which is of x and is
// used as V.
type frame struct{ ahead, x, behind string }

var frames = []frame{
	{straight(), "v0", "ret V\n"},
	// The shape is used by other values, more than once.
	{straight("v2 = add v0 v1"), "v2", "v50 = mul V v2\nv51 = sub v50 V\nret v51\n"},
	// Nothing uses it.
	{straight(), "v1", "v50 = div v0 v1\nret v50\n"},
	// It is of a div that may trap, and that must stay, whatever goes.
	{straight("v2 = div v0 v1"), "v2", "ret V\n"},
	{straight("v2 = div v0 v1"), "v2", "v50 = div v1 V\nret v0\n"},
	// It is made on one of two ways alone.
	{straight("if v1 b1 b2", "b1:"), "v0", "jump b3\nb2:\nv50 = not v0\njump b3\nb3:\nv51 = phi V v50\nret v51\n"},
	// An if goes by it.
	{straight(), "v0", "if V b1 b2\nb1:\nret v1\nb2:\nret V\n"},
	// A loop takes it round and round, what it is of and how often.
	{straight("v2 = const 7", "v3 = and v1 v2", "v4 = const -1", "jump b1", "b1:", "v5 = phi v3 v50", "v6 = phi v0 V", "if v5 b2 b3", "b2:"),
		"v6", "v50 = add v5 v4\njump b1\nb3:\nret v6\n"},
	{straight("v2 = const 7", "v3 = and v1 v2", "v4 = const -1", "jump b1", "b1:", "v5 = phi v3 v50", "v6 = phi v0 v51", "v7 = phi v1 v6", "if v5 b2 b3", "b2:"),
		"v7", "v50 = add v5 v4\nv51 = xor V v5\njump b1\nb3:\nv52 = sub v6 v7\nret v52\n"},
	// It traps in a loop, not at once.
	{straight("v2 = const 7", "v3 = and v1 v2", "jump b1", "b1:", "v5 = phi v3 v50", "v6 = phi v0 v51"),
		"v6", "v50 = lt v5 v6\nv51 = div V v5\nif v50 b1 b2\nb2:\nret v51\n"},
}

// of is the function with that shape; its consts are the numbers.
func (f frame) of(shape string, numbers ...int) string {
	made := ""
	next := 20
	consts := map[string]string{}
	var make func(part tree) string
	make = func(part tree) string {
		thing := "const " + part.word
		switch first := part.word[0]; {
		case first >= 'a' && first <= 'z':
			return f.x
		case first == '#':
			if consts[part.word] == "" {
				consts[part.word] = strconv.Itoa(numbers[len(consts)])
			}
			thing = "const " + consts[part.word]
		case first == '(':
			thing = part.word[1:]
			for _, of := range part.of {
				thing += " " + make(of)
			}
		}
		v := "v" + strconv.Itoa(next)
		next++
		made += v + " = " + thing + "\n"
		return v
	}
	v := make(parsed(shape))
	fill := strings.NewReplacer("V", v)
	return fill.Replace(f.ahead) + made + fill.Replace(f.behind)
}

// wantStandard applies the standard rules: no shape is left, and the function
// comes to what it came to.
func wantStandard(t *testing.T, text string, picks []int, args [][]int) {
	t.Helper()
	after, steps, errno := chisel.Rewrite(chisel.Standard(), text, picks)
	if errno != api.OK || ir.Check(after) != api.OK || steps == 0 {
		t.Fatalf("Rewrite(.., %q, %v) = %q, %d, %d", text, picks, after, steps, errno)
	}
	if shapes := left(after); len(shapes) > 0 {
		t.Errorf("Rewrite(.., %q, %v) = %q: %v are left", text, picks, after, shapes)
	}
	for _, a := range args {
		wantDoesTheSame(t, text, after, a)
	}
}

func TestP7Rules(t *testing.T) {
	rules := chisel.Standard()
	count, line, errno := chisel.Rules(rules)
	if count == 0 || line != 0 || errno != api.OK {
		t.Errorf("Rules(Standard()) = %d, %d, %d", count, line, errno)
	}
	if len(rules) > api.MaxRules {
		t.Errorf("the standard rules have %d bytes", len(rules))
	}
	if again := chisel.Standard(); again != rules {
		t.Errorf("twice the same call: %q, %q", rules, again)
	}
}

func allPairs(numbers []int) [][]int {
	var all [][]int
	for _, a := range numbers {
		for _, b := range numbers {
			all = append(all, []int{a, b})
		}
	}
	return all
}

func TestP7Shapes(t *testing.T) {
	args := allPairs(edgeNumbers)
	for _, shape := range shapes {
		for _, f := range frames {
			text := f.of(shape, -5, 7)
			if errno := ir.Check(text); errno != api.OK {
				t.Fatalf("the test's own function %q: %d", text, errno)
			}
			if !strings.Contains(strings.Join(left(text), ""), shape) {
				t.Fatalf("the test's own function %q has no %s", text, shape)
			}
			for _, picks := range [][]int{nil, {1}, {2, 2}, {-1, -1, -1}, {5, 0, 3}} {
				wantStandard(t, text, picks, args)
			}
		}
	}
}

func TestP7Consts(t *testing.T) {
	for _, shape := range shapes {
		if !strings.Contains(shape, "#") {
			continue
		}
		for _, numbers := range allPairs(edgeNumbers) {
			wantStandard(t, frames[0].of(shape, numbers...), nil, [][]int{{0, 0}})
			wantStandard(t, frames[1].of(shape, numbers...), []int{1, 1}, [][]int{{0, 0}, {3, -1}, {math.MinInt32, 8}})
		}
	}
}

// Each rule alone, where it fits: of what the others would take as well, too.
func TestP7EachRule(t *testing.T) {
	args := allPairs(edgeNumbers)
	for _, rule := range strings.SplitAfter(strings.TrimSuffix(chisel.Standard(), "\n"), "\n") {
		rule = strings.TrimSuffix(rule, "\n") + "\n"
		if rule == "\n" || rule[0] == ';' {
			continue
		}
		node, _, _ := strings.Cut(rule, " => ")
		for _, f := range frames {
			for _, numbers := range [][]int{{0, 0}, {1, 8}, {math.MinInt32, -1}, {math.MaxInt32, math.MinInt32}} {
				text := f.of(node, numbers...)
				after, steps, errno := chisel.Rewrite(rule, text, nil)
				if steps == 0 || errno != api.OK {
					t.Fatalf("Rewrite(%q, %q) = %q, %d, %d", rule, text, after, steps, errno)
				}
				for _, a := range args {
					wantDoesTheSame(t, text, after, a)
				}
			}
		}
	}
}

// What one step makes may be a shape for the next.
func TestP7Chains(t *testing.T) {
	args := allPairs(edgeNumbers)
	for _, text := range []string{
		straight("v2 = const 4", "v3 = const -4", "v4 = add v2 v3", "v5 = add v0 v4", "v6 = sub v5 v0", "v7 = mul v1 v6", "v8 = or v7 v1", "ret v8"),
		straight("v2 = const 0", "v3 = sub v2 v0", "v4 = sub v2 v3", "v5 = not v4", "v6 = xor v5 v2", "v7 = not v6", "v8 = eq v7 v0", "v9 = mul v8 v1", "ret v9"),
		straight("v2 = const 1", "v3 = const 3", "v4 = shl v2 v3", "v5 = mul v0 v4", "v6 = mul v4 v4", "v7 = mul v5 v4", "v8 = add v7 v6", "ret v8"),
		// Two consts of one number are not one value; they come to the same all the same.
		straight("v2 = const -2147483648", "v3 = const -2147483648", "v4 = sub v2 v3", "v5 = eq v2 v3", "v6 = mul v0 v5", "v7 = xor v6 v4", "v8 = lt v0 v7", "ret v8"),
		// Of nothing by nothing: the div stays, and traps.
		straight("v2 = sub v0 v0", "v3 = div v2 v2", "v4 = mul v3 v2", "ret v4"),
		straight("v2 = const 0", "v3 = div v0 v1", "v4 = and v3 v2", "v5 = div v1 v4", "ret v4"),
		straight("v2 = const -2147483648", "v3 = const -1", "v4 = div v2 v3", "v5 = sub v4 v4", "v6 = sub v4 v5", "ret v6"),
		// The sum from arg 0 down, with the edges of the loop made of shapes.
		straight("v2 = const 0", "v3 = const 15", "v4 = and v0 v3", "v5 = const 1", "v6 = neg v5", "jump b1",
			"b1:", "v7 = phi v4 v9", "v8 = phi v2 v11", "if v7 b2 b3",
			"b2:", "v9 = add v7 v6", "v10 = add v8 v7", "v11 = add v10 v2", "jump b1", "b3:", "v12 = or v8 v8", "ret v12"),
		// Two phis that change places, each through a shape.
		straight("v2 = const 7", "v3 = and v0 v2", "v4 = const 0", "v5 = const -1", "jump b1",
			"b1:", "v6 = phi v3 v9", "v7 = phi v0 v10", "v8 = phi v1 v11", "if v6 b2 b3",
			"b2:", "v9 = add v6 v5", "v10 = or v8 v4", "v11 = xor v7 v4", "jump b1", "b3:", "v12 = sub v7 v8", "ret v12"),
	} {
		if errno := ir.Check(text); errno != api.OK {
			t.Fatalf("the test's own function %q: %d", text, errno)
		}
		m := rand.New(rand.NewSource(14))
		for n := range 20 {
			picks := make([]int, n)
			for i := range picks {
				picks[i] = m.Int() - m.Int()
			}
			wantStandard(t, text, picks, args)
		}
	}
}

// Where there is no room for the shl of a mul, what was made ahead of it
// changes nothing either.
func TestP7NoRoom(t *testing.T) {
	text := strings.Replace(full(0), "v2 = div v0 v0\n", "v2 = or v0 v0\n", 1)
	text = strings.Replace(text, "v3 = div v0 v0\n", "v3 = div v2 v0\n", 1)
	after, steps, errno := chisel.Rewrite(chisel.Standard(), text, nil)
	if steps != 2 || errno != api.OK {
		t.Errorf("Rewrite(.., %q) = %q, %d, %d", text, after, steps, errno)
	}
	for _, a := range edgeNumbers {
		wantDoesTheSame(t, text, after, []int{a})
	}
	after, steps, errno = chisel.Rewrite(chisel.Standard(), text, []int{1})
	if after != text || steps != 0 || errno != api.ErrRoom {
		t.Errorf("Rewrite(.., %q) = %q, %d, %d", text, after, steps, errno)
	}
	// A mul of consts needs none.
	consts := strings.Replace(full(0), "v2 = div v0 v0\n", "v2 = const 5\n", 1)
	consts = strings.Replace(consts, "mul v0 v1", "mul v2 v1", 1)
	wantOK(t, chisel.Standard(), consts, nil, 1, strings.NewReplacer("v1 = const 8\n", "", "v2 = const 5\n", "", "mul v2 v1", "const 40").Replace(consts))
}

func TestP7WhatAFunctionDoes(t *testing.T) {
	m := maker{Rand: rand.New(rand.NewSource(15))}
	seen, shapesSeen := map[api.Errno]int{}, map[string]int{}
	for range 4000 {
		text := m.function()
		if ir.Check(text) != api.OK {
			continue
		}
		for _, shape := range left(text) {
			shapesSeen[shape]++
		}
		for range 3 {
			picks := make([]int, m.Intn(30))
			for i := range picks {
				picks[i] = m.Int() - m.Int()
			}
			after, steps, errno := chisel.Rewrite(chisel.Standard(), text, picks)
			if errno != api.OK && errno != api.ErrRoom || ir.Check(after) != api.OK {
				t.Fatalf("Rewrite(.., %q, %v) = %q, %d, %d", text, picks, after, steps, errno)
			}
			if shapes := left(after); errno == api.OK && len(shapes) > 0 {
				t.Fatalf("Rewrite(.., %q, %v) = %q: %v are left", text, picks, after, shapes)
			}
			seen[errno]++
			for range 4 {
				args := []int{m.Intn(9) - 4, edgeNumbers[m.Intn(len(edgeNumbers))]}
				if m.Intn(2) == 0 {
					args = []int{int(int32(m.Uint32())), int(int32(m.Uint32()))}
				}
				if wantDoesTheSame(t, text, after, args) == api.ErrTrap {
					seen[api.ErrTrap]++
				}
			}
		}
	}
	if seen[api.OK] < 5000 || seen[api.ErrRoom] == 0 || seen[api.ErrTrap] < 1000 {
		t.Errorf("too little was come to: %v", seen)
	}
	for _, shape := range shapes {
		if shapesSeen[shape] < 20 {
			t.Errorf("%s was come to %d times only", shape, shapesSeen[shape])
		}
	}
}
