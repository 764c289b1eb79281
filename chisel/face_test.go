package chisel

import (
	"testing"

	"chisel/api"
	"chisel/scan"
)

func TestFaultsAreCaught(t *testing.T) {
	want := scan.Fault{Why: api.ErrBound, Where: 7}
	got, fault := read(func(string) int { panic(want) }, "")
	if got != 0 || fault != want {
		t.Errorf("%d, %v, want 0, %v", got, fault, want)
	}
	got, fault = read(func(text string) int { return len(text) }, "four")
	if got != 4 || fault != (scan.Fault{}) {
		t.Errorf("%d, %v, want 4 and no fault", got, fault)
	}
}

func TestOtherPanicsGoOn(t *testing.T) {
	defer func() {
		if caught := recover(); caught != "of the program itself" {
			t.Errorf("%v came out", caught)
		}
	}()
	read(func(string) int { panic("of the program itself") }, "")
}
