package code

import (
	"maps"
	"strings"
	"testing"

	"chisel/api"
	"chisel/scan"
)

func faultOf(text string) (fault scan.Fault) {
	defer func() {
		if caught := recover(); caught != nil {
			fault = caught.(scan.Fault)
		}
	}()
	Read(text)
	return fault
}

func TestFaultsKnowWhyAndWhere(t *testing.T) {
	for text, want := range map[string]scan.Fault{
		"":                                      {Why: api.ErrText, Where: 1},
		"func 0":                                {Why: api.ErrText, Where: 1},
		"func 0\nb0:\nv0 = const 1\nret v0\n":   {},
		"func 0\nb0:\nv0 = const 1\nret v0\n\n": {Why: api.ErrText, Where: 5},
		"func 0\nb0:\nv0 = const -0\nret v0\n":  {Why: api.ErrText, Where: 3},
		"func 0\nb0:\nv0 = const 1\nv0 = const 2\nret v0\n":                           {Why: api.ErrForm, Where: 4},
		"func 0\nb0:\nv0 = const 1\njump b0\n":                                        {Why: api.ErrForm, Where: 4},
		"func 0\nb0:\nv0 = const 1\nret v0\nb1:\nret v0\n":                            {Why: api.ErrForm, Where: 5},
		"func 0\nb0:\nv0 = const 1\njump b1\nb1:\nv1 = phi v0\nv2 = phi\nret v0\n":    {Why: api.ErrForm, Where: 7},
		"func 0\nb0:\nv0 = const 1\njump b1\nb1:\nv1 = phi v1\nret v0\n":              {Why: api.ErrForm, Where: 6},
		"func 0\nb0:\nv0 = const 1\njump b1\nb1:\nv1 = neg v0\nv2 = neg v3\nret v0\n": {Why: api.ErrForm, Where: 7},
		"func 0\nb0:\nv0 = const 1\njump b1\nb1:\nv1 = neg v0\nret v2\n":              {Why: api.ErrForm, Where: 7},
		strings.Repeat("\n", api.MaxText+1):                                           {Why: api.ErrText, Where: 0},
	} {
		if got := faultOf(text); got != want {
			t.Errorf("Read(%q) gives up with %v, want %v", text, got, want)
		}
	}
}

func TestEdgesHaveTheirPlaces(t *testing.T) {
	f := Read("func 0\nb0:\nv0 = const 1\nif v0 b2 b2\nb1:\njump b2\nb2:\nif v0 b1 b2\n")
	places, counts := f.edges()
	want := map[Edge]int{{0, 0}: 0, {0, 1}: 1, {1, 0}: 2, {2, 0}: 0, {2, 1}: 3}
	if !maps.Equal(places, want) {
		t.Errorf("places are %v, want %v", places, want)
	}
	if len(counts) != 3 || counts[0] != 0 || counts[1] != 1 || counts[2] != 4 {
		t.Errorf("counts are %v, want [0 1 4]", counts)
	}
}

func TestOpsHaveTheirRows(t *testing.T) {
	names := []string{"add", "sub", "mul", "div", "and", "or", "xor", "shl", "shr", "eq", "lt", "neg", "not"}
	for i, op := range []Op{Add, Sub, Mul, Div, And, Or, Xor, Shl, Shr, Eq, Lt, Neg, Not} {
		if got, ok := OpNamed(names[i]); got != op || !ok {
			t.Errorf("%s is %d, %t, want %d", names[i], got, ok, op)
		}
	}
	for _, name := range []string{"", "ad", "addd", "ADD", "phi", "arg", "const", "ret"} {
		if _, ok := OpNamed(name); ok {
			t.Errorf("%q is an operation", name)
		}
	}
}

func TestTextIsReadAgain(t *testing.T) {
	for _, text := range []string{
		"func 0\nb0:\nv0 = const -2147483648\nret v0\n",
		"func 4\nb0:\nv59 = arg 3\nv0 = const 10\nv7 = div v59 v0\nv8 = not v7\nif v8 b1 b2\nb1:\njump b2\nb2:\nv1 = phi v7 v8 v1\nif v1 b2 b3\nb3:\nret v1\n",
	} {
		if got := Read(text).Text(); got != text {
			t.Errorf("%q became %q", text, got)
		}
	}
}

// What changes a function makes another.
func TestChangesLeaveTheFunctionAsItWas(t *testing.T) {
	const text = "func 1\nb0:\nv0 = arg 0\nv1 = neg v0\nv2 = not v1\nif v1 b1 b1\nb1:\nv3 = phi v1 v2\nv4 = add v1 v3\nret v3\n"
	f := Read(text)
	for want, changed := range map[string]Function{
		"func 1\nb0:\nv0 = arg 0\nv5 = const 7\nv1 = neg v5\nv2 = not v1\nif v1 b1 b1\nb1:\nv3 = phi v1 v2\nv4 = add v1 v3\nret v3\n": f.Put(Place{0, 1}, []Value{{5, Const{7}}, {1, Apply{Neg, []int{5}}}}),
		"func 1\nb0:\nv0 = arg 0\nv1 = neg v0\nv2 = not v0\nif v0 b1 b1\nb1:\nv3 = phi v0 v2\nv4 = add v0 v3\nret v3\n":               f.Renamed(1, 0),
		"func 1\nb0:\nv0 = arg 0\nv1 = neg v0\nv2 = not v1\nif v1 b1 b1\nb1:\nv3 = phi v1 v2\nv4 = add v1 v0\nret v0\n":               f.Renamed(3, 0),
		"func 1\nb0:\nv0 = arg 0\nv1 = neg v0\nv2 = not v1\nif v1 b1 b1\nb1:\nv3 = phi v1 v2\nret v3\n":                               f.Swept(),
	} {
		if got := changed.Text(); got != want {
			t.Errorf("%q, want %q", got, want)
		}
	}
	if got := f.Text(); got != text {
		t.Errorf("the function became %q", got)
	}
	if at := f.At(Place{1, 1}); at.Number != 4 {
		t.Errorf("at the place stands v%d, want v4", at.Number)
	}
}
