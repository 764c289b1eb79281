package scan

import (
	"math"
	"strings"

	"chisel/api"
)

const maxDigits = 10

// Reader goes through a text, and holds what is still ahead of it.
type Reader struct {
	Rest string
	Line int
	Why  api.Errno // what a text is that can't be read
}

// Fail gives the text up.
func (r *Reader) Fail() { r.GiveUp(r.Why) }

// GiveUp gives the text up for another reason than that it can't be read.
func (r *Reader) GiveUp(why api.Errno) { panic(Fault{why, r.Line}) }

// Skip goes past the word, if it is next.
func (r *Reader) Skip(word string) bool {
	rest, found := strings.CutPrefix(r.Rest, word)
	r.Rest = rest
	return found
}

// Take goes past the word, which must be next.
func (r *Reader) Take(word string) {
	if !r.Skip(word) {
		r.Fail()
	}
}

// Letters takes all small letters that come next.
func (r *Reader) Letters() string { return r.run('a', 'z') }

func (r *Reader) run(low, high byte) string {
	n := 0
	for n < len(r.Rest) && low <= r.Rest[n] && r.Rest[n] <= high {
		n++
	}
	taken := r.Rest[:n]
	r.Rest = r.Rest[n:]
	return taken
}

// Number is of 64 bits, because ten digits may be more than 32 hold.
func (r *Reader) Number() int64 {
	digits := r.run('0', '9')
	if digits == "" || len(digits) > maxDigits || digits[0] == '0' && digits != "0" {
		r.Fail()
	}
	n := int64(0)
	for i := range len(digits) {
		n = 10*n + int64(digits[i]-'0')
	}
	return n
}

// Below takes a number that must be less than the limit.
func (r *Reader) Below(limit int) int {
	n := r.Number()
	if n >= int64(limit) {
		r.Fail()
	}
	return int(n)
}

// Signed takes a number of 32 bits.
func (r *Reader) Signed() int32 {
	minus := r.Skip("-")
	n := r.Number()
	if minus && n == 0 {
		r.Fail()
	}
	if minus {
		n = -n
	}
	if n < math.MinInt32 || n > math.MaxInt32 {
		r.Fail()
	}
	return int32(n)
}
