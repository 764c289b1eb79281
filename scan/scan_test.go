package scan

import (
	"math"
	"testing"

	"chisel/api"
)

// given is what the reader gives up with; no fault, if it doesn't.
func given(read func()) (fault Fault) {
	defer func() {
		if caught := recover(); caught != nil {
			fault = FaultOf(caught)
		}
	}()
	read()
	return Fault{}
}

func TestGivesUpWithWhyAndWhere(t *testing.T) {
	r := Reader{Rest: "word", Line: 5, Why: api.ErrText}
	if got := given(func() { r.Take("worse") }); got != (Fault{api.ErrText, 5}) {
		t.Errorf("a word that isn't next: %v", got)
	}
	if got := given(func() { r.GiveUp(api.ErrHeavy) }); got != (Fault{api.ErrHeavy, 5}) {
		t.Errorf("another reason: %v", got)
	}
	if got := given(func() { r.Take("wor") }); got != (Fault{}) || r.Rest != "d" {
		t.Errorf("a word that is next: %v, and %q ahead", got, r.Rest)
	}
}

func TestFaultOfLetsOtherPanicsGoOn(t *testing.T) {
	for _, other := range []any{"text", 1, api.ErrRule, &Fault{}} {
		func() {
			defer func() {
				if caught := recover(); caught != other {
					t.Errorf("%v became %v", other, caught)
				}
			}()
			given(func() { panic(other) })
		}()
	}
}

func TestNumbers(t *testing.T) {
	for text, want := range map[string]int32{"0": 0, "7)": 7, "-1": -1, "10 x": 10, "2147483647": math.MaxInt32, "-2147483648": math.MinInt32} {
		r := Reader{Rest: text}
		if got := r.Signed(); got != want {
			t.Errorf("%q is %d, want %d", text, got, want)
		}
	}
	for _, text := range []string{"", "-", "x", "-0", "00", "01", "--1", "2147483648", "-2147483649", "10000000000", "99999999999999999999"} {
		r := Reader{Rest: text, Line: 3, Why: api.ErrRule}
		if got := given(func() { r.Signed() }); got != (Fault{api.ErrRule, 3}) {
			t.Errorf("%q: %v", text, got)
		}
	}
}
