package chisel_test

import (
	"math/rand"
	"strconv"
	"strings"
	"testing"

	"chisel/api"
	"chisel/chisel"
	"chisel/ir"
)

// maker makes rules and functions by chance, with a start that is fixed.
type maker struct {
	*rand.Rand
	names  []string // of the node that is being made, with their #
	values []string // that may be used where the function is being made
	next   int
	space  int // how far apart v numbers stand
}

func (m *maker) one(of ...string) string { return of[m.Intn(len(of))] }

var smallNumbers = []string{"0", "1", "-1", "8", "3", "-2147483648", "2147483647"}

func (m *maker) op() (string, int) {
	if m.Intn(4) == 0 {
		return m.one(ofOne...), 1
	}
	return m.one("add", "add", "sub", "mul", "mul", "mul", "mul", "mul", "and", "or", "xor", "shl", "shr", "eq", "lt", "div"), 2
}

func (m *maker) node(depth int) string {
	op, of := m.op()
	text := "(" + op
	for range of {
		text += " " + m.part(depth-1)
	}
	return text + ")"
}

func (m *maker) part(depth int) string {
	switch n := m.Intn(10); {
	case n < 4 && depth > 0:
		return m.node(depth)
	case n < 5:
		return m.one(smallNumbers...)
	}
	name := m.one("x", "x", "y", "y", "z", "#a", "#a", "#b")
	if m.Intn(60) == 0 {
		name = m.one("#x", "a", "sub")
	}
	m.names = append(m.names, name)
	return name
}

func (m *maker) result(depth int, known bool) string {
	switch n := m.Intn(10); {
	case n < 4 && depth > 0:
		op, of := m.op()
		known = known || m.Intn(3) == 0
		text := "(" + op
		for range of {
			text += " " + m.result(depth-1, known)
		}
		if known {
			text = "!" + text
		}
		return text + ")"
	case n < 5 || len(m.names) == 0:
		return m.one(smallNumbers...)
	}
	name := m.one(m.names...)
	if m.Intn(40) == 0 {
		return m.one("w", "#"+name, "#x")
	}
	if known == (name[0] != '#') && m.Intn(10) > 0 {
		return m.one(smallNumbers...)
	}
	if !known && m.Intn(2) == 0 {
		return strings.TrimPrefix(name, "#")
	}
	return name
}

func (m *maker) rule() string {
	m.names = nil
	return m.node(1+m.Intn(1+m.Intn(3))) + " => " + m.result(m.Intn(4), false)
}

// manyNew are rules that make more than one thing, which chance seldom finds.
var manyNew = []string{
	"(mul x y) => (add (neg x) (sub y x))", "(mul x y) => (shl (neg x) !(add 1 2))", "(mul x #a) => (add x #a)",
	"(mul #a x) => (sub (sub x a) (neg x))", "(mul (add x y) z) => (add (neg x) (xor y z))", "(mul x y) => (sub 1 (add 2 3))",
	"(shl x y) => (add x y)", "(shr x y) => (neg 1)", "(mul x (mul x y)) => (neg (neg (neg y)))", "(mul x y) => (not (not (not 0)))",
}

// rules are some that the second way lets by.
func (m *maker) rules() string {
	text := ""
	for want := 1 + m.Intn(20); want > 0; {
		rule := m.rule()
		if m.Intn(5) == 0 {
			rule = m.one(manyNew...)
		}
		if secondLine(rule) == api.OK {
			text += rule + "\n"
			want--
		}
	}
	return text
}

func (m *maker) fresh() string {
	v := "v" + strconv.Itoa(m.next)
	m.next += 1 + m.Intn(m.space)
	return v
}

func (m *maker) use() string { return m.one(m.values...) }

func (m *maker) value() string {
	v := m.fresh()
	line := v + " = const " + m.one(smallNumbers...)
	if m.Intn(4) > 0 {
		op, of := m.op()
		line = v + " = " + op
		for range of {
			// The last one more often, so that nodes that are deep fit.
			of := m.values[len(m.values)-1]
			if m.Intn(2) == 0 {
				of = m.use()
			}
			line += " " + of
		}
	}
	m.values = append(m.values, v)
	return line + "\n"
}

func (m *maker) some(n int) string {
	text := ""
	for range m.Intn(n + 1) {
		text += m.value()
	}
	return text
}

// function is one of a few shapes.
func (m *maker) function() string {
	m.next, m.space, m.values = 0, 1+m.Intn(2), nil
	v0, v1 := m.fresh(), m.fresh()
	m.values = []string{v0, v1}
	begin := "func 2\nb0:\n" + v0 + " = arg 0\n" + v1 + " = arg 1\n" + m.some(6)
	switch m.Intn(4) {
	case 0:
		return m.end(begin + m.some(20))
	case 1:
		return m.diamond(begin)
	case 2:
		return m.loop(begin)
	}
	return m.both(begin)
}

// end adds divs, so that more stays; now and then so many that there is little
// room.
func (m *maker) end(text string) string {
	last := "ret " + m.use() + "\n"
	limit := min(api.MaxValues, m.next+m.Intn(6))
	if m.Intn(4) == 0 {
		limit = api.MaxValues - m.Intn(5)
	}
	for m.next < limit {
		text += m.fresh() + " = div " + m.use() + " " + m.use() + "\n"
	}
	return text + last
}

func (m *maker) diamond(text string) string {
	text += "if " + m.use() + " b1 b2\n"
	far := m.values[:len(m.values):len(m.values)]
	text += "b1:\n" + m.some(8)
	left := m.use()
	text += "jump b3\nb2:\n"
	m.values = far
	text += m.some(8)
	right := m.use()
	m.values = far
	phi := m.fresh()
	m.values = append(m.values, phi)
	return m.end(text + "jump b3\nb3:\n" + phi + " = phi " + left + " " + right + "\n" + m.some(8))
}

func (m *maker) loop(text string) string {
	start, other := m.use(), m.use()
	text += "jump b1\nb1:\n"
	phi, second := m.fresh(), m.fresh()
	m.values = append(m.values, phi, second)
	within := m.some(6) + "if " + m.use() + " b2 b3\n"
	far := m.values[:len(m.values):len(m.values)]
	within += "b2:\n" + m.some(8)
	text += phi + " = phi " + start + " " + m.use() + "\n" + second + " = phi " + other + " " + m.use() + "\n" + within
	m.values = far
	return m.end(text + "jump b1\nb3:\n" + m.some(4))
}

// both has an if whose two ways go to one block.
func (m *maker) both(text string) string {
	first, second := m.use(), m.use()
	text += "if " + m.use() + " b1 b1\nb1:\n"
	phi := m.fresh()
	m.values = append(m.values, phi)
	return m.end(text + phi + " = phi " + first + " " + second + "\n" + m.some(10))
}

func TestP4AgainstASecondWay(t *testing.T) {
	m := maker{Rand: rand.New(rand.NewSource(11))}
	seen := map[api.Errno]int{}
	for range 50000 {
		rules := ""
		for range 1 + m.Intn(3) {
			rules += m.rule() + m.one("\n", "\n", "\n\n", "\n;\n")
		}
		if m.Intn(20) == 0 {
			rules = rules[:m.Intn(len(rules))]
		}
		count, line, errno := secondRules(rules)
		wantRules(t, rules, count, line, errno)
		seen[errno]++
	}
	for _, errno := range []api.Errno{api.OK, api.ErrRule, api.ErrBound, api.ErrHeavy} {
		if seen[errno] < 1000 {
			t.Errorf("errno %d was come to %d times only", errno, seen[errno])
		}
	}
}

// Every text that is one byte away from these.
func TestP1P4NearRules(t *testing.T) {
	for _, rules := range []string{
		"(add x 0) => x\n;\n(sub #a #a) => -1\n",
		"(mul (neg (shl y #b)) 10) => (sub !(not !(eq #b 7)) y)\n",
		"(neg (neg (neg (neg x)))) => 2147483647\n\n",
		"(mul #a x) => !(neg !(neg !(neg !(neg #a))))\n",
	} {
		for i := range rules {
			near := []string{rules[:i], rules[i:], rules[:i] + rules[i+1:]}
			for _, b := range []byte("08-#!()=> \n;axyb\x00\xff") {
				near = append(near, rules[:i]+string([]byte{b})+rules[i:], rules[:i]+string([]byte{b})+rules[i+1:])
			}
			for _, s := range near {
				count, line, errno := secondRules(s)
				wantRules(t, s, count, line, errno)
			}
		}
	}
}

func wantLighter(t *testing.T, texts []string) {
	t.Helper()
	for i := 1; i < len(texts); i++ {
		before, _ := ir.Weight(texts[i-1])
		after, errno := ir.Weight(texts[i])
		if errno != api.OK || after >= before {
			t.Fatalf("a step makes %q, which weighs %d (%d), of %q, which weighs %d", texts[i], after, errno, texts[i-1], before)
		}
	}
}

func TestP5P6AgainstASecondWay(t *testing.T) {
	m := maker{Rand: rand.New(rand.NewSource(12))}
	seen := map[api.Errno]int{}
	steps := 0
	for range 3000 {
		rules, text := m.rules(), m.function()
		if ir.Check(text) != api.OK {
			continue // too long, or too many values
		}
		picks := make([]int, m.Intn(6))
		for i := range picks {
			picks[i] = m.Int() - m.Int()
		}
		want, wantSteps, wantErrno, ahead := secondRewrite(rules, text, picks)
		wantRewrite(t, rules, text, picks, want, wantSteps, wantErrno)
		seen[wantErrno]++
		steps += wantSteps
		wantLighter(t, append(ahead, want))
		if weight, _ := ir.Weight(text); wantSteps > weight {
			t.Errorf("%d steps of %q, which weighs %d", wantSteps, text, weight)
		}
		if wantErrno == api.OK {
			wantOK(t, rules, want, picks, 0, want)
		}
	}
	if seen[api.OK] < 2000 || seen[api.ErrRoom] < 50 || steps < 5000 {
		t.Errorf("too little was come to: %v, %d steps", seen, steps)
	}
}

// sound are rules by which nothing changes that a function does.
const sound = `(add x 0) => x
(add 0 x) => x
(sub x x) => 0
(sub 0 x) => (neg x)
(sub (add x y) x) => y
(sub (add x y) y) => x
(add (sub x y) y) => x
(mul x 1) => x
(mul x 8) => (shl x 3)
(mul x 3) => (add x (add x x))
(mul -1 x) => (neg x)
(and x (or x y)) => x
(or x (and y x)) => x
(xor x x) => 0
(xor (xor x y) y) => x
(neg (neg x)) => x
(not (not x)) => x
(eq x x) => 1
(lt x x) => 0
(add #a #b) => !(add #a #b)
(sub #a #b) => !(sub #a #b)
(mul #a #b) => !(mul #a #b)
`

// wantDoesTheSame runs both functions with these arguments, and tells what the
// first one's run came to.
func wantDoesTheSame(t *testing.T, before, after string, args []int) api.Errno {
	t.Helper()
	want, _, wantErrno := ir.Run(before, args, 2000)
	if wantErrno == api.ErrFuel {
		return wantErrno
	}
	got, _, gotErrno := ir.Run(after, args, api.MaxFuel)
	if got != want || gotErrno != wantErrno {
		t.Fatalf("Run(%q, %v) = %d, %d; of %q it was %d, %d", after, args, got, gotErrno, before, want, wantErrno)
	}
	return wantErrno
}

func TestP6WhatAFunctionDoes(t *testing.T) {
	m := maker{Rand: rand.New(rand.NewSource(13))}
	seen := map[api.Errno]int{}
	steps := 0
	for range 8000 {
		text := m.function()
		if ir.Check(text) != api.OK {
			continue
		}
		after, n, errno := chisel.Rewrite(sound, text, []int{m.Int(), m.Int(), m.Int()})
		if errno != api.OK && errno != api.ErrRoom || ir.Check(after) != api.OK {
			t.Fatalf("Rewrite(.., %q) = %q, %d, %d", text, after, n, errno)
		}
		steps += n
		for range 4 {
			seen[wantDoesTheSame(t, text, after, []int{m.Intn(9) - 4, int(int32(m.Uint32()))})]++
		}
	}
	if seen[api.OK] < 5000 || seen[api.ErrTrap] < 1000 || steps < 5000 {
		t.Errorf("too little was come to: %v, %d steps", seen, steps)
	}
}
