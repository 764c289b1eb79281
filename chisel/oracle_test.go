package chisel_test

import (
	"regexp"
	"slices"
	"strconv"
	"strings"

	"chisel/api"
	"chisel/ir"
)

// Here stands a second way to look through rules and to apply them, as near to
// the document's words as it gets: it works on the lines and words of the
// texts, without blocks, and reckons by running functions.

var ofTwo = []string{"add", "sub", "mul", "div", "and", "or", "xor", "shl", "shr", "eq", "lt"}
var ofOne = []string{"neg", "not"}

var weights = map[string]int{"add": 4, "sub": 4, "mul": 12, "div": 20, "and": 4, "or": 4, "xor": 4, "shl": 5, "shr": 5, "eq": 4, "lt": 4, "neg": 3, "not": 3}

var (
	allowed  = regexp.MustCompile(`\A[a-z0-9()!# -]+ => [a-z0-9()!# -]+\z`)
	token    = regexp.MustCompile(`\(?#?[a-z]+|-?[0-9]+`)
	nameOnly = regexp.MustCompile(`\A#?[a-z]{1,6}\z`)
	number   = regexp.MustCompile(`\A(?:0|-?[1-9][0-9]{0,9})\z`)
	// One level of brackets: in a node, and in a result.
	inNode   = regexp.MustCompile(`\([2D] [NHCT] [NHCT]\)|\(1 [NHCT]\)`)
	inResult = regexp.MustCompile(`!\(2 [HCK] [HCK]\)|!\(1 [HCK]\)|\([2D] [NHCKM] [NHCKM]\)|\(1 [NHCKM]\)`)
)

// kind is the letter that stands for a word: of a name N, with # H, of a
// number C, of an operation the bracket and how many it is of (a div's is D).
func kind(word string) string {
	op := strings.TrimLeft(word, "(#")
	isOp := weights[op] > 0
	switch {
	case word == "(div":
		return "(D"
	case slices.Contains(ofTwo, word[1:]) && word[0] == '(':
		return "(2"
	case slices.Contains(ofOne, word[1:]) && word[0] == '(':
		return "(1"
	case nameOnly.MatchString(word) && !isOp && word[0] == '#':
		return "H"
	case nameOnly.MatchString(word) && !isOp:
		return "N"
	case number.MatchString(word):
		if n, _ := strconv.Atoi(word); n == int(int32(n)) {
			return "C"
		}
	}
	return "?"
}

// levels is how often a level of brackets can be taken away, and what is left.
func levels(shape string, level *regexp.Regexp) (int, string) {
	for n := 0; ; n++ {
		next := level.ReplaceAllStringFunc(shape, func(s string) string {
			switch {
			case level == inNode:
				return "T"
			case s[0] == '!':
				return "K"
			}
			return "M"
		})
		if next == shape {
			return n, shape
		}
		shape = next
	}
}

func namesOf(side string) []string {
	var names []string
	for _, word := range token.FindAllString(side, -1) {
		if nameOnly.MatchString(word) {
			names = append(names, word)
		}
	}
	return names
}

// secondLine is the first fault of a line that is neither empty nor a remark.
func secondLine(line string) api.Errno {
	if !allowed.MatchString(line) {
		return api.ErrRule
	}
	node, result, _ := strings.Cut(line, " => ")
	depth, rest := levels(token.ReplaceAllStringFunc(node, kind), inNode)
	if rest != "T" || depth > api.MaxDepth {
		return api.ErrRule
	}
	depth, rest = levels(token.ReplaceAllStringFunc(result, kind), inResult)
	if !strings.Contains("NHCKM", rest) || len(rest) != 1 || depth > api.MaxDepth {
		return api.ErrRule
	}
	has := namesOf(node)
	for _, name := range has {
		if slices.Contains(has, "#"+name) {
			return api.ErrRule
		}
	}
	for _, name := range namesOf(result) {
		if !slices.Contains(has, name) && !slices.Contains(has, "#"+name) {
			return api.ErrBound
		}
	}
	if top := parsed(node); top.word == "(div" || weighed(parsed(result)) >= weights[top.word[1:]] {
		return api.ErrHeavy
	}
	return api.OK
}

func secondRules(rules string) (count, line int, errno api.Errno) {
	if len(rules) > api.MaxRules {
		return 0, 0, api.ErrRule
	}
	all := strings.SplitAfter(rules, "\n")
	for i, text := range all {
		rule, ended := strings.CutSuffix(text, "\n")
		switch {
		case text == "" && i == len(all)-1:
		case !ended:
			return 0, i + 1, api.ErrRule
		case rule == "" || rule[0] == ';':
		default:
			if errno := secondLine(rule); errno != api.OK {
				return 0, i + 1, errno
			}
			count++
		}
	}
	return count, 0, api.OK
}

// tree is a node, a part or a result that is known to be one. The word of an
// operation has its bracket, and its ! ahead of that.
type tree struct {
	word string
	of   []tree
}

func parsed(text string) tree {
	stack := []tree{{}}
	for _, word := range strings.Fields(strings.ReplaceAll(text, ")", " )")) {
		last := len(stack) - 1
		switch {
		case word == ")":
			stack[last-1].of = append(stack[last-1].of, stack[last])
			stack = stack[:last]
		case strings.Contains(word, "("):
			stack = append(stack, tree{word: word})
		default:
			stack[last].of = append(stack[last].of, tree{word: word})
		}
	}
	return stack[0].of[0]
}

func weighed(result tree) int {
	switch first := result.word[0]; {
	case first == '(':
		sum := weights[result.word[1:]]
		for _, of := range result.of {
			sum += weighed(of)
		}
		return sum
	case first >= 'a' && first <= 'z':
		return 0
	}
	return 1
}

// body is a function as words; a value's v number and its = are the first two.
type body [][]string

func words(text string) body {
	var b body
	for _, line := range strings.Split(strings.TrimSuffix(text, "\n"), "\n") {
		b = append(b, strings.Split(line, " "))
	}
	return b
}

func (b body) text() string {
	text := ""
	for _, line := range b {
		text += strings.Join(line, " ") + "\n"
	}
	return text
}

func isValue(line []string) bool { return len(line) > 1 && line[1] == "=" }

func (b body) valueOf(v string) []string {
	for _, line := range b {
		if isValue(line) && line[0] == v {
			return line[2:]
		}
	}
	return nil
}

func (b body) uses(v string) int {
	n := 0
	for _, line := range b {
		for i, word := range line {
			if word == v && !(i == 0 && isValue(line)) {
				n++
			}
		}
	}
	return n
}

// fits holds a part against a value; fitted has what fitted each name, of
// which the first from the left.
func (b body) fits(part tree, v string, fitted map[string]string) bool {
	value := b.valueOf(v)
	switch first := part.word[0]; {
	case first == '(':
		if value[0] != part.word[1:] {
			return false
		}
		for i, of := range part.of {
			if !b.fits(of, value[1+i], fitted) {
				return false
			}
		}
		return true
	case first >= 'a' && first <= 'z':
		if _, again := fitted[part.word]; !again {
			fitted[part.word] = v
		}
		return fitted[part.word] == v
	case first == '#':
		if value[0] != "const" {
			return false
		}
		name := part.word[1:]
		if _, again := fitted[name]; !again {
			fitted[name] = v
		}
		return b.valueOf(fitted[name])[1] == value[1]
	}
	return value[0] == "const" && value[1] == part.word
}

// makes adds the lines of a result to made, the last of them without its v
// number; a name it gives back.
func (b body) makes(result tree, fitted map[string]string, made *[]string) string {
	switch first := result.word[0]; {
	case first >= 'a' && first <= 'z':
		return fitted[result.word]
	case first == '(':
		line := result.word[1:]
		for _, of := range result.of {
			name := b.makes(of, fitted, made)
			if name == "" {
				name = "v" + strconv.Itoa(b.takeFree(len(*made)-1))
			}
			line += " " + name
		}
		*made = append(*made, line)
	default:
		*made = append(*made, "const "+strconv.Itoa(b.known(result, fitted)))
	}
	return ""
}

// takeFree is the free v number of that place, from 0 on.
func (b body) takeFree(place int) int {
	for v := 0; ; v++ {
		if b.valueOf("v"+strconv.Itoa(v)) == nil {
			if place == 0 {
				return v
			}
			place--
		}
	}
}

func (b body) known(result tree, fitted map[string]string) int {
	switch result.word[0] {
	case '#':
		n, _ := strconv.Atoi(b.valueOf(fitted[result.word[1:]])[1])
		return n
	case '!':
		text := "func 0\nb0:\n"
		line := "v9 = " + result.word[2:]
		for i, of := range result.of {
			text += "v" + strconv.Itoa(i) + " = const " + strconv.Itoa(b.known(of, fitted)) + "\n"
			line += " v" + strconv.Itoa(i)
		}
		n, _, _ := ir.Run(text+line+"\nret v9\n", nil, 10)
		return n
	}
	n, _ := strconv.Atoi(result.word)
	return n
}

// swept is without what nothing uses, one line after the other.
func (b body) swept() body {
	for {
		i := slices.IndexFunc(b, func(line []string) bool {
			return isValue(line) && line[2] != "div" && b.uses(line[0]) == 0
		})
		if i < 0 {
			return b
		}
		b = slices.Concat(b[:i], b[i+1:])
	}
}

func (b body) renamed(from, to string) body {
	var other body
	for _, line := range b {
		line = slices.Clone(line)
		for i := range line {
			if line[i] == from && !(i == 0 && isValue(line)) {
				line[i] = to
			}
		}
		other = append(other, line)
	}
	return other
}

// stepped is the body behind the step at that line; false, if there is no room.
func (b body) stepped(at int, rule string) (body, bool) {
	node, result, _ := strings.Cut(rule, " => ")
	v := b[at][0]
	fitted := map[string]string{}
	b.fits(parsed(node), v, fitted)
	var made []string
	name := b.makes(parsed(result), fitted, &made)
	next := slices.Concat(b[:at], b[at+1:])
	if name != "" {
		next = next.renamed(v, name)
	}
	for i := len(made) - 1; i >= 0; i-- {
		number := v
		if i < len(made)-1 {
			free := b.takeFree(i)
			if free >= api.MaxValues {
				return b, false
			}
			number = "v" + strconv.Itoa(free)
		}
		next = slices.Insert(next, at, strings.Split(number+" = "+made[i], " "))
	}
	next = next.swept()
	return next, len(next.text()) <= api.MaxText
}

// secondRewrite is Rewrite of rules and a function that are fine; it tells
// also what the function was ahead of each step.
func secondRewrite(rules, text string, picks []int) (string, int, api.Errno, []string) {
	var each []string
	for _, rule := range strings.Split(rules, "\n") {
		if rule != "" && rule[0] != ';' {
			each = append(each, rule)
		}
	}
	var ahead []string
	b := words(text)
	for steps := 0; ; steps++ {
		var at []int
		var by []string
		for i, line := range b {
			for _, rule := range each {
				node, _, _ := strings.Cut(rule, " => ")
				if isValue(line) && b.fits(parsed(node), line[0], map[string]string{}) {
					at, by = append(at, i), append(by, rule)
				}
			}
		}
		if len(at) == 0 {
			return b.text(), steps, api.OK, ahead
		}
		pick := 0
		if steps < len(picks) {
			for pick = picks[steps] % len(at); pick < 0; {
				pick += len(at)
			}
		}
		next, room := b.stepped(at[pick], by[pick])
		if !room {
			return b.text(), steps, api.ErrRoom, ahead
		}
		ahead = append(ahead, b.text())
		b = next
	}
}
