package code

import (
	"maps"
	"strings"
	"testing"

	"chisel/api"
)

func faultOf(text string) (fault Fault) {
	defer func() {
		if caught := recover(); caught != nil {
			fault = caught.(Fault)
		}
	}()
	Read(text)
	return fault
}

func TestFaultsKnowWhyAndWhere(t *testing.T) {
	for text, want := range map[string]Fault{
		"":                                      {api.ErrText, 1},
		"func 0":                                {api.ErrText, 1},
		"func 0\nb0:\nv0 = const 1\nret v0\n":   {},
		"func 0\nb0:\nv0 = const 1\nret v0\n\n": {api.ErrText, 5},
		"func 0\nb0:\nv0 = const -0\nret v0\n":  {api.ErrText, 3},
		"func 0\nb0:\nv0 = const 1\nv0 = const 2\nret v0\n":                           {api.ErrForm, 4},
		"func 0\nb0:\nv0 = const 1\njump b0\n":                                        {api.ErrForm, 4},
		"func 0\nb0:\nv0 = const 1\nret v0\nb1:\nret v0\n":                            {api.ErrForm, 5},
		"func 0\nb0:\nv0 = const 1\njump b1\nb1:\nv1 = phi v0\nv2 = phi\nret v0\n":    {api.ErrForm, 7},
		"func 0\nb0:\nv0 = const 1\njump b1\nb1:\nv1 = phi v1\nret v0\n":              {api.ErrForm, 6},
		"func 0\nb0:\nv0 = const 1\njump b1\nb1:\nv1 = neg v0\nv2 = neg v3\nret v0\n": {api.ErrForm, 7},
		"func 0\nb0:\nv0 = const 1\njump b1\nb1:\nv1 = neg v0\nret v2\n":              {api.ErrForm, 7},
		strings.Repeat("\n", api.MaxText+1):                                           {api.ErrText, 0},
	} {
		if got := faultOf(text); got != want {
			t.Errorf("Read(%q) gives up with %v, want %v", text, got, want)
		}
	}
}

func TestEdgesHaveTheirPlaces(t *testing.T) {
	f := Read("func 0\nb0:\nv0 = const 1\nif v0 b2 b2\nb1:\njump b2\nb2:\nif v0 b1 b2\n")
	places, counts := f.edges()
	want := map[Edge]int{{0, 0}: 0, {0, 1}: 1, {1, 0}: 2, {2, 0}: 0, {2, 1}: 3}
	if !maps.Equal(places, want) {
		t.Errorf("places are %v, want %v", places, want)
	}
	if len(counts) != 3 || counts[0] != 0 || counts[1] != 1 || counts[2] != 4 {
		t.Errorf("counts are %v, want [0 1 4]", counts)
	}
}

func TestOpsHaveTheirRows(t *testing.T) {
	names := []string{"add", "sub", "mul", "div", "and", "or", "xor", "shl", "shr", "eq", "lt", "neg", "not"}
	for i, op := range []Op{Add, Sub, Mul, Div, And, Or, Xor, Shl, Shr, Eq, Lt, Neg, Not} {
		if got, ok := OpNamed(names[i]); got != op || !ok {
			t.Errorf("%s is %d, %t, want %d", names[i], got, ok, op)
		}
	}
	for _, name := range []string{"", "ad", "addd", "ADD", "phi", "arg", "const", "ret"} {
		if _, ok := OpNamed(name); ok {
			t.Errorf("%q is an operation", name)
		}
	}
}
