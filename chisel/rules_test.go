package chisel_test

import (
	"strings"
	"testing"

	"chisel/api"
	"chisel/chisel"
)

func lines(l ...string) string {
	text := ""
	for _, line := range l {
		text += line + "\n"
	}
	return text
}

func wantRules(t *testing.T, rules string, count, line int, errno api.Errno) {
	t.Helper()
	gotCount, gotLine, gotErrno := chisel.Rules(rules)
	if gotCount != count || gotLine != line || gotErrno != errno {
		t.Errorf("Rules(%.80q) = %d, %d, %d, want %d, %d, %d", rules, gotCount, gotLine, gotErrno, count, line, errno)
	}
	if errno == api.OK {
		return
	}
	// The rules' fault is named first, without its line.
	if text, steps, got := chisel.Rewrite(rules, "", nil); text != "" || steps != 0 || got != errno {
		t.Errorf("Rewrite(%.80q, ..) = %q, %d, %d, want nothing and %d", rules, text, steps, got, errno)
	}
}

// The line alone, and as the third of four.
func wantLine(t *testing.T, line string, errno api.Errno) {
	t.Helper()
	around := "(add x 0) => x\n;\n" + line + "\n(add x\n"
	if errno == api.OK {
		wantRules(t, line+"\n", 1, 0, api.OK)
		wantRules(t, around, 0, 4, api.ErrRule)
		return
	}
	wantRules(t, line+"\n", 0, 1, errno)
	wantRules(t, around, 0, 3, errno)
}

func TestP4Lines(t *testing.T) {
	wantRules(t, "", 0, 0, api.OK)
	wantRules(t, "\n", 0, 0, api.OK)
	wantRules(t, ";\n\n; (add x y) => z\n;\x00\xff (\n", 0, 0, api.OK)
	wantRules(t, lines("(add x 0) => x", "; none", "(sub x x) => 0"), 2, 0, api.OK)
	// The same rule twice is two.
	wantRules(t, lines("(add x 0) => x", "", "(add x 0) => x"), 2, 0, api.OK)
	// A last line without its end, whatever it is; there is none behind the last end.
	wantRules(t, "(add x 0) => x", 0, 1, api.ErrRule)
	wantRules(t, ";", 0, 1, api.ErrRule)
	wantRules(t, "(add x 0) => x\n;", 0, 2, api.ErrRule)
	wantRules(t, "(add x 0) => x\n\n ", 0, 3, api.ErrRule)
	wantRules(t, "(add x y) => z", 0, 1, api.ErrRule)
	// The first line that has a fault, whichever that is.
	wantRules(t, lines("(neg x) => (neg x)", "(add x y) => z", "add"), 0, 1, api.ErrHeavy)
	wantRules(t, lines(";", "(add x y) => z", "add", "(neg x) => (neg x)"), 0, 2, api.ErrBound)
	wantRules(t, "(add x y) => z\n;", 0, 1, api.ErrBound)
}

func TestP4Length(t *testing.T) {
	many := strings.Repeat("(neg x) => x\n", api.MaxRules/13)
	wantRules(t, many, api.MaxRules/13, 0, api.OK)
	wantRules(t, many+strings.Repeat("\n", api.MaxRules-len(many)), api.MaxRules/13, 0, api.OK)
	wantRules(t, many+strings.Repeat("\n", api.MaxRules-len(many)+1), 0, 0, api.ErrRule)
	// Too many bytes: no line is named, though one has a fault.
	wantRules(t, "(add x y) => z\n"+strings.Repeat(";\n", api.MaxRules/2), 0, 0, api.ErrRule)
	wantRules(t, strings.Repeat("(neg ", api.MaxRules/5), 0, 1, api.ErrRule)
	wantRules(t, strings.Repeat("(neg ", api.MaxRules/5-1)+"\n", 0, 1, api.ErrRule)
	wantRules(t, "(neg x) => "+strings.Repeat("!(neg ", 450)+"\n", 0, 1, api.ErrRule)
	wantRules(t, strings.Repeat("(", 1<<20), 0, 0, api.ErrRule)
}

func TestP4Rules(t *testing.T) {
	for _, line := range []string{
		"(add x 0) => x", "(add 0 x) => x", "(sub x x) => 0", "(shl x -2147483648) => 2147483647",
		"(add #a #b) => !(add #a #b)", "(neg #a) => !(neg #a)", "(add #a #b) => !(xor !(not #b) !(shl 1 -1))",
		"(add phi const) => phi", "(add a abcdef) => abcdef", "(add z func) => z", "(neg ad) => ad", "(neg addx) => addx",
		"(xor (neg x) (neg x)) => x", "(xor (neg #x) (neg #x)) => x", "(sub (div x y) y) => x",
		// With # in the node, without in the result, and both.
		"(add #a y) => a", "(mul #a y) => (add a #a)",
		// As deep as may be.
		"(neg (neg (neg (neg x)))) => x", "(mul y (neg (add 1 (neg x)))) => x",
		"(mul #a x) => !(neg !(neg !(neg !(neg #a))))",
		"(mul (add (add (add a b) (add c d)) (add (add e f) (add g h))) (add (add (add i j) (add k l)) (add (add m n) (add o p)))) => p",
	} {
		wantLine(t, line, api.OK)
	}
}

func TestP4NoRule(t *testing.T) {
	for _, line := range []string{
		" ", " ;", "x", "=>", " => ", "(add x 0)", "(add x 0) =>", "(add x 0) => ", "(add x 0)=> x", "(add x 0) =>x",
		"(add x 0) = > x", "(add x 0)  => x", "(add x 0) =>  x", " (add x 0) => x", "(add x 0) => x ", "(add x 0) => x\r",
		"(add x 0) => x => x", "(add x 0) => x x", "(add x 0) => x)", "((add x 0)) => x", "(add x 0) => (x)", "x => x", "#a => a", "1 => 1",
		"(add x) => x", "(add x y z) => x", "(add) => 1", "(neg x y) => x", "(neg ) => 1", "(add  x y) => x", "(add x  y) => x",
		"(add x y ) => x", "( add x y) => x", "(add x\ty) => x", "(add x y => x", "add x y) => x", "(addx y) => y",
		"(min x y) => x", "(ADD x y) => x", "(phi x y) => x", "(arg 0) => 1", "(const 1) => 1", "(x y z) => y", "(#a x y) => x",
		// Names.
		"(add x add) => x", "(add x lt) => x", "(add x #not) => x", "(add x y) => neg", "(add x y) => #neg",
		"(add x abcdefg) => x", "(add x y) => abcdefg", "(add x #abcdefg) => x", "(add X y) => y", "(add x1 y) => y", "(add 1x y) => y",
		"(add x # a) => x", "(add x #) => x", "(add x ##a) => x", "(add x #1) => x", "(add x #-1) => x", "(add x #(neg y)) => x",
		"(add x é) => x", "(add x \xff) => x", "(add x \x00) => x",
		// Numbers.
		"(add x 2147483648) => x", "(add x -2147483649) => x", "(add x 4294967296) => x", "(add x 10000000000) => x",
		"(add x 18446744073709551617) => x", "(add x -0) => x", "(add x 00) => x", "(add x 01) => x", "(add x --1) => x",
		"(add x +1) => x", "(add x - 1) => x", "(add x -) => x", "(add x -y) => x", "(add x y) => -0", "(add x y) => 2147483648",
		// A name with # in one place of the node, without in another.
		"(add x #x) => 1", "(add #x x) => x", "(add (neg #x) (neg x)) => 1",
		// Too deep.
		"(neg (neg (neg (neg (neg x))))) => x", "(mul y (mul x (mul x (mul x (mul x 1))))) => x",
		"(mul x y) => (neg (neg (neg (neg (neg x)))))", "(mul #a x) => !(neg !(neg !(neg !(neg !(neg #a)))))",
		// What is reckoned is of what is known, and no div.
		"(add x !(neg 1)) => x", "!(add x 1) => x", "(mul #a y) => !(neg y)", "(mul #a y) => !(neg a)", "(mul #a y) => !(neg (neg #a))",
		"(mul #a y) => !(div #a 1)", "(mul #a y) => (add y !(div 1 1))", "(mul #a y) => !#a", "(mul #a y) => !y", "(mul #a y) => !1",
		"(mul #a y) => !!(neg #a)", "(mul #a y) => ! (neg #a)", "(mul #a y) => !(neg #a #a)", "(mul #a y) => !(neg)", "(mul #a y) => (neg !(neg x))",
		// No rule, and worse beside it.
		"(add x y) => !(neg z)", "(add x y) => (add z", "(div x y) => z)", "(div x y) => (neg (neg (neg (neg (neg z)))))",
	} {
		wantLine(t, line, api.ErrRule)
	}
}

func TestP4Bound(t *testing.T) {
	for _, line := range []string{
		"(add x y) => z", "(add x y) => (mul z z)", "(add x y) => (neg (neg (neg z)))", "(neg 1) => x",
		"(add x y) => #z", "(add x y) => #x", "(mul x y) => (add x #y)", "(add x y) => !(neg #x)", "(add x #a) => !(neg !(neg #x))",
		"(add #a #b) => !(add #a #c)", "(add x xx) => xxx",
		// Too heavy, or of a div, beside it.
		"(add x y) => (div z z)", "(div x y) => z", "(div #a y) => (div #y a)",
	} {
		wantLine(t, line, api.ErrBound)
	}
}

func TestP4Heavy(t *testing.T) {
	for _, line := range []string{
		"(add x 1) => (sub x -1)", "(add x y) => (add y x)", "(neg x) => (not x)", "(neg #a) => (neg a)", "(add x x) => (shl x 1)",
		"(neg x) => (neg 1)", "(mul x y) => (mul x y)", "(mul x y) => (div x y)", "(mul x y) => (add (neg x) (shl y y))",
		"(mul x y) => (add (neg x) (add y 0))", "(mul #a y) => (add (neg #a) (add y a))", "(mul x y) => (add (add x !(neg 1)) (not !(neg 2)))",
		// It is the outermost that counts.
		"(neg (mul x y)) => (neg x)", "(add (div x y) (div x y)) => (shl x y)",
		// Of a div nothing is light enough.
		"(div x 1) => x", "(div #a #b) => 1", "(div x x) => 1",
	} {
		wantLine(t, line, api.ErrHeavy)
	}
	// One less.
	for _, line := range []string{
		"(add x 1) => (neg x)", "(neg x) => 1", "(shl x 1) => (add x x)", "(shr x 1) => (neg 1)", "(mul x y) => (add (neg x) (add y y))",
		"(mul x y) => (add (neg x) (neg 0))", "(mul #a y) => (sub (add y !(neg !(neg #a))) 2)",
	} {
		wantLine(t, line, api.OK)
	}
	// What each operation allows, and no more.
	for op, weight := range map[string]int{"add": 4, "sub": 4, "mul": 12, "and": 4, "or": 4, "xor": 4, "shl": 5, "shr": 5, "eq": 4, "lt": 4} {
		for result, of := range map[string]int{"x": 0, "1": 1, "(neg x)": 3, "(add x x)": 4, "(add x 1)": 5, "(neg (neg x))": 6, "(add x (add x (neg x)))": 11, "(mul x x)": 12} {
			want := api.OK
			if of >= weight {
				want = api.ErrHeavy
			}
			wantLine(t, "("+op+" x y) => "+result, want)
		}
	}
}
