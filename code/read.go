package code

import (
	"math"
	"strings"

	"chisel/api"
)

const maxDigits = 10

// Read is the function of the text. It gives up by a panic with a Fault: with
// ErrText, if the text is no function, with ErrForm, if that is not right.
func Read(text string) Function {
	if len(text) > api.MaxText {
		panic(Fault{api.ErrText, 0})
	}
	r := reader{rest: text, line: 1}
	f := r.function()
	f.requireRight()
	return f
}

// reader goes through a text, and holds what is still ahead of it.
type reader struct {
	rest string
	line int
	args int // how many the function has
}

func (r *reader) fail() { panic(Fault{api.ErrText, r.line}) }

// skip goes past the word, if it is next.
func (r *reader) skip(word string) bool {
	rest, found := strings.CutPrefix(r.rest, word)
	r.rest = rest
	return found
}

func (r *reader) take(word string) {
	if !r.skip(word) {
		r.fail()
	}
}

func (r *reader) lineEnd() {
	r.take("\n")
	r.line++
}

// run takes all that comes next of the bytes from low to high.
func (r *reader) run(low, high byte) string {
	n := 0
	for n < len(r.rest) && low <= r.rest[n] && r.rest[n] <= high {
		n++
	}
	taken := r.rest[:n]
	r.rest = r.rest[n:]
	return taken
}

// number is of 64 bits, because ten digits may be more than 32 hold.
func (r *reader) number() int64 {
	digits := r.run('0', '9')
	if digits == "" || len(digits) > maxDigits || digits[0] == '0' && digits != "0" {
		r.fail()
	}
	n := int64(0)
	for i := range len(digits) {
		n = 10*n + int64(digits[i]-'0')
	}
	return n
}

// below takes a number that must be less than the limit.
func (r *reader) below(limit int) int {
	n := r.number()
	if n >= int64(limit) {
		r.fail()
	}
	return int(n)
}

func (r *reader) signed() int32 {
	minus := r.skip("-")
	n := r.number()
	if minus && n == 0 {
		r.fail()
	}
	if minus {
		n = -n
	}
	if n < math.MinInt32 || n > math.MaxInt32 {
		r.fail()
	}
	return int32(n)
}

func (r *reader) value() int {
	r.take("v")
	return r.below(api.MaxValues)
}

// target may be a block that there is not: the text is a function all the
// same, so this fault waits until all of the text is read. All numbers that no
// block can have are as wrong as the least of them.
func (r *reader) target() int {
	r.take("b")
	return int(min(r.number(), api.MaxBlocks))
}

func (r *reader) function() Function {
	r.take("func ")
	r.args = r.below(api.MaxArgs + 1)
	r.lineEnd()
	blocks := []Block{r.block(0)}
	for r.rest != "" {
		blocks = append(blocks, r.block(len(blocks)))
	}
	return Function{Args: r.args, Blocks: blocks}
}

func (r *reader) block(number int) Block {
	r.take("b")
	if r.below(api.MaxBlocks) != number {
		r.fail()
	}
	r.take(":")
	r.lineEnd()
	values := r.values()
	last := r.last()
	r.lineEnd()
	return Block{Values: values, Last: last}
}

func (r *reader) values() []Value {
	var values []Value
	phis := true
	for strings.HasPrefix(r.rest, "v") {
		number := r.value()
		r.take(" = ")
		thing := r.thing()
		_, phi := thing.(Phi)
		if phi && !phis {
			r.fail()
		}
		phis = phi
		r.lineEnd()
		values = append(values, Value{Number: number, Thing: thing})
	}
	return values
}

func (r *reader) thing() Thing {
	switch word := r.run('a', 'z'); word {
	case "phi":
		return Phi{Of: r.phiValues()}
	case "arg":
		r.take(" ")
		return Arg{Number: r.below(r.args)}
	case "const":
		r.take(" ")
		return Const{Number: r.signed()}
	default:
		return r.apply(word)
	}
}

func (r *reader) phiValues() []int {
	var of []int
	for r.skip(" ") {
		of = append(of, r.value())
	}
	return of
}

func (r *reader) apply(word string) Apply {
	op, found := OpNamed(word)
	if !found {
		r.fail()
	}
	of := make([]int, op.Of())
	for i := range of {
		r.take(" ")
		of[i] = r.value()
	}
	return Apply{Op: op, Of: of}
}

func (r *reader) last() Last {
	switch word := r.run('a', 'z'); word {
	case "ret":
		r.take(" ")
		return Ret{Of: r.value()}
	case "jump":
		r.take(" ")
		return Jump{To: r.target()}
	case "if":
		return r.ifLast()
	}
	r.fail()
	return nil
}

func (r *reader) ifLast() If {
	r.take(" ")
	of := r.value()
	r.take(" ")
	then := r.target()
	r.take(" ")
	return If{Of: of, Then: then, Else: r.target()}
}
