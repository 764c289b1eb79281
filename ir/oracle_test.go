package ir_test

import (
	"math"
	"math/big"
	"math/rand"
	"regexp"
	"strconv"
	"strings"
	"testing"

	"chisel/api"
	"chisel/ir"
)

// Here stands a second way to look through functions and to run them, as near
// to the document's words as it gets and without a thought for speed; the
// program is held against it, at functions made by a generator with a fixed
// start, and at texts one byte away from functions.

const num = `(?:0|[1-9][0-9]{0,9})`

var grammar = regexp.MustCompile(`\Afunc ` + num + `\n(?:b` + num + `:\n` +
	`(?:v` + num + ` = phi(?: v` + num + `)*\n)*` +
	`(?:v` + num + ` = (?:arg ` + num + `|const (?:0|-?[1-9][0-9]{0,9})|` +
	`(?:add|sub|mul|div|and|or|xor|shl|shr|eq|lt) v` + num + ` v` + num + `|(?:neg|not) v` + num + `)\n)*` +
	`(?:ret v` + num + `|jump b` + num + `|if v` + num + ` b` + num + ` b` + num + `)\n)+\z`)

var (
	anyValue = regexp.MustCompile(`\bv([0-9]+)`)
	anyHead  = regexp.MustCompile(`(?m)^b([0-9]+):$`)
	anyArg   = regexp.MustCompile(`arg ([0-9]+)`)
	anyConst = regexp.MustCompile(`const (-?[0-9]+)`)
)

func found(at *regexp.Regexp, text string) []int {
	var numbers []int
	for _, m := range at.FindAllStringSubmatch(text, -1) {
		n, _ := strconv.Atoi(m[1])
		numbers = append(numbers, n)
	}
	return numbers
}

func isFunction(text string) bool {
	if len(text) > api.MaxText || !grammar.MatchString(text) {
		return false
	}
	args, _ := strconv.Atoi(strings.TrimPrefix(strings.Split(text, "\n")[0], "func "))
	fine := args <= api.MaxArgs
	for i, n := range found(anyHead, text) {
		fine = fine && n == i && n < api.MaxBlocks
	}
	for _, n := range found(anyValue, text) {
		fine = fine && n < api.MaxValues
	}
	for _, n := range found(anyArg, text) {
		fine = fine && n < args
	}
	for _, n := range found(anyConst, text) {
		fine = fine && n >= math.MinInt32 && n <= math.MaxInt32
	}
	return fine
}

// blockLines are the lines of each block without its head, in words.
func blockLines(text string) [][][]string {
	var blocks [][][]string
	for _, line := range strings.Split(strings.TrimSuffix(text, "\n"), "\n")[1:] {
		if strings.HasSuffix(line, ":") {
			blocks = append(blocks, nil)
			continue
		}
		last := len(blocks) - 1
		blocks[last] = append(blocks[last], strings.Fields(line))
	}
	return blocks
}

func goesTo(block [][]string) []int {
	var to []int
	for _, word := range block[len(block)-1] {
		if n, ok := strings.CutPrefix(word, "b"); ok {
			number, _ := strconv.Atoi(n)
			to = append(to, number)
		}
	}
	return to
}

// comesFrom are the blocks from which the edges into the block come, and of
// each edge which way of that block's it is.
func comesFrom(blocks [][][]string, block int) (from, way []int) {
	for b := range blocks {
		for w, to := range goesTo(blocks[b]) {
			if to == block {
				from, way = append(from, b), append(way, w)
			}
		}
	}
	return from, way
}

// canReach tells whether there is a way from the beginning of block 0 to
// ahead of that line, on which the value is not made.
func canReach(blocks [][][]string, block, line int, without string) bool {
	seen := map[int]bool{}
	var walk func(b int) bool
	walk = func(b int) bool {
		for i, words := range blocks[b] {
			if b == block && i == line {
				return true
			}
			if words[0] == without {
				return false
			}
		}
		if b == block && line == len(blocks[b]) {
			return true
		}
		if seen[b] {
			return false
		}
		seen[b] = true
		for _, to := range goesTo(blocks[b]) {
			if walk(to) {
				return true
			}
		}
		return false
	}
	return walk(0)
}

func usedBy(words []string) []string {
	var used []string
	for i, word := range words {
		if i > 0 && strings.HasPrefix(word, "v") {
			used = append(used, word)
		}
	}
	return used
}

func isRight(text string) bool {
	blocks := blockLines(text)
	made := map[string]bool{}
	for b, block := range blocks {
		for _, to := range goesTo(block) {
			if to == 0 || to >= len(blocks) {
				return false
			}
		}
		for _, words := range block {
			if made[words[0]] {
				return false
			}
			made[words[0]] = strings.HasPrefix(words[0], "v")
			if b == 0 && len(words) > 2 && words[2] == "phi" {
				return false
			}
		}
	}
	for b, block := range blocks {
		if !canReach(blocks, b, 0, "") {
			return false
		}
		from, _ := comesFrom(blocks, b)
		for i, words := range block {
			used := usedBy(words)
			phi := len(words) > 2 && words[2] == "phi"
			if phi && len(used) != len(from) {
				return false
			}
			for k, v := range used {
				if phi && canReach(blocks, from[k], len(blocks[from[k]]), v) || !phi && canReach(blocks, b, i, v) {
					return false
				}
			}
		}
	}
	return true
}

func checked(text string) api.Errno {
	switch {
	case !isFunction(text):
		return api.ErrText
	case !isRight(text):
		return api.ErrForm
	}
	return api.OK
}

// ran runs a function that is right.
func ran(text string, args []int, fuel int) (int, int, api.Errno) {
	blocks := blockLines(text)
	values := map[string]int{}
	at, edge, steps := 0, 0, 0
	for {
		before := map[string]int{}
		for v, n := range values {
			before[v] = n
		}
		for _, words := range blocks[at] {
			if steps == fuel {
				return 0, fuel, api.ErrFuel
			}
			steps++
			if words[0] == "ret" {
				return values[words[1]], steps, api.OK
			}
			if words[0] == "jump" || words[0] == "if" {
				break
			}
			number, _ := strconv.Atoi(words[len(words)-1])
			switch words[2] {
			case "phi":
				values[words[0]] = before[words[3+edge]]
			case "arg":
				values[words[0]] = args[number]
			case "const":
				values[words[0]] = number
			default:
				var n *big.Int
				if n = reckoned(words[2], values[words[3]], values[words[len(words)-1]]); n == nil {
					return 0, steps, api.ErrTrap
				}
				values[words[0]] = lowest32(n)
			}
		}
		last := blocks[at][len(blocks[at])-1]
		taken := 0
		if last[0] == "if" && values[last[1]] == 0 {
			taken = 1
		}
		to := goesTo(blocks[at])[taken]
		from, way := comesFrom(blocks, to)
		for edge = 0; from[edge] != at || way[edge] != taken; {
			edge++
		}
		at = to
	}
}

// maker makes functions that are right more often than not.
type maker struct {
	rand *rand.Rand
	next int
	far  []int // made in block 0: these may be used anywhere
	near []int // made in this block
}

func (m *maker) fresh() string {
	m.near = append(m.near, m.next)
	m.next++
	return "v" + strconv.Itoa(m.next-1)
}

func (m *maker) use() string {
	if m.rand.Intn(150) == 0 {
		return " v" + strconv.Itoa(m.rand.Intn(m.next+1))
	}
	from := append(append([]int{}, m.far...), m.near...)
	return " v" + strconv.Itoa(from[m.rand.Intn(len(from))])
}

func (m *maker) value(args int) string {
	kinds := []string{"arg", "const", "add", "sub", "mul", "div", "and", "or", "xor", "shl", "shr", "eq", "lt", "neg", "not"}
	kind := kinds[m.rand.Intn(len(kinds))]
	of := " " + strconv.Itoa(m.rand.Intn(5)-2)
	switch kind {
	case "arg":
		of = " " + strconv.Itoa(m.rand.Intn(max(args, 1)))
	case "const":
	case "neg", "not":
		of = m.use()
	default:
		of = m.use() + m.use()
	}
	return m.fresh() + " = " + kind + of + "\n"
}

func (m *maker) function() string {
	count, args := 1+m.rand.Intn(6), m.rand.Intn(api.MaxArgs)+1
	lasts, edges := make([][]int, count), make([]int, count)
	for b := range lasts {
		for range m.rand.Intn(3) {
			if count > 1 {
				// The next block most of the time, so that most blocks can be come to.
				to := min(b+1, count-1)
				if m.rand.Intn(3) == 0 {
					to = 1 + m.rand.Intn(count-1)
				}
				lasts[b] = append(lasts[b], to)
				edges[to]++
			}
		}
	}
	text := "func " + strconv.Itoa(args) + "\n"
	for b := range lasts {
		text += "b" + strconv.Itoa(b) + ":\n" + m.block(b, args, edges[b]) + m.last(lasts[b])
	}
	return text
}

func (m *maker) block(b, args, edges int) string {
	text := ""
	m.near = nil
	if b == 0 {
		text = m.fresh() + " = arg 0\n"
	} else {
		for range m.rand.Intn(3) {
			if m.rand.Intn(30) == 0 {
				edges++
			}
			name := m.fresh()
			text += name + " = phi"
			for range edges {
				of := m.far[m.rand.Intn(len(m.far))]
				if m.rand.Intn(4) == 0 {
					of = m.rand.Intn(m.next + 3)
				}
				text += " v" + strconv.Itoa(of)
			}
			text += "\n"
		}
	}
	for range m.rand.Intn(4) {
		text += m.value(args)
	}
	if b == 0 {
		m.far = m.near
	}
	return text
}

func (m *maker) last(to []int) string {
	switch len(to) {
	case 0:
		return "ret" + m.use() + "\n"
	case 1:
		return "jump b" + strconv.Itoa(to[0]) + "\n"
	}
	return "if" + m.use() + " b" + strconv.Itoa(to[0]) + " b" + strconv.Itoa(to[1]) + "\n"
}

func TestP2P3AgainstASecondWay(t *testing.T) {
	source := rand.New(rand.NewSource(7))
	seen := map[api.Errno]int{}
	for range 20000 {
		m := maker{rand: source}
		text := m.function()
		want := checked(text)
		if got := ir.Check(text); got != want {
			t.Fatalf("Check(%q) = %d, want %d", text, got, want)
		}
		seen[want]++
		if want != api.OK {
			continue
		}
		for range 4 {
			args := make([]int, text[len("func ")]-'0')
			for i := range args {
				args[i] = edgeNumbers[source.Intn(len(edgeNumbers))]
			}
			fuel := source.Intn(60)
			n, steps, errno := ran(text, args, fuel)
			wantRun(t, text, args, fuel, n, steps, errno)
			seen[errno]++
		}
	}
	// Else the generator shows too little.
	for _, errno := range []api.Errno{api.OK, api.ErrForm, api.ErrTrap, api.ErrFuel} {
		if seen[errno] < 500 {
			t.Errorf("errno %d was come to %d times only", errno, seen[errno])
		}
	}
}

// Every text that is one byte away from these: none panics, and the second
// way says the same of it.
func TestP1P2NearFunctions(t *testing.T) {
	for _, text := range []string{eight, loop, diamond, straight("v0 = const 10", "v1 = div v0 v0", "ret v1")} {
		for i := range text {
			near := []string{text[:i], text[i:], text[:i] + text[i+1:]}
			for _, b := range []byte("0123456789vb: -\nadx\x00\xff") {
				near = append(near, text[:i]+string([]byte{b})+text[i:], text[:i]+string([]byte{b})+text[i+1:])
			}
			for _, s := range near {
				if got, want := ir.Check(s), checked(s); got != want {
					t.Fatalf("Check(%q) = %d, want %d", s, got, want)
				}
				if _, _, errno := ir.Run(s, []int{3}, 50); errno < api.OK || errno > api.ErrFuel {
					t.Fatalf("Run(%q): %d", s, errno)
				}
			}
		}
	}
}
