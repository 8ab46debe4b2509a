package bits_test

import (
	"math"
	"slices"
	"testing"

	"syntagm/api"
	"syntagm/bits"
)

func TestOfTakesWhatASetCanHave(t *testing.T) {
	for _, x := range []struct {
		in   []int
		want api.Set
	}{
		{nil, 0},
		{[]int{3, 1, 64}, 10},
		{[]int{0}, 1},
		{[]int{63, 63}, 1 << 63},
		{[]int{-1, 64, math.MaxInt, math.MinInt, 1 << 40}, 0},
	} {
		if got := bits.Of(x.in...); got != x.want {
			t.Errorf("Of(%v) = %b, want %b", x.in, got, x.want)
		}
	}
}

func TestOfLeavesItsArgument(t *testing.T) {
	l := []int{5, 99, 2}
	bits.Of(l...)
	if !slices.Equal(l, []int{5, 99, 2}) {
		t.Error(l)
	}
}

func TestListIsRising(t *testing.T) {
	for _, l := range [][]int{nil, {0}, {63}, {0, 5, 63}, {1, 2, 3, 4}} {
		if got := bits.List(bits.Of(l...)); !slices.Equal(got, l) {
			t.Errorf("List = %v, want %v", got, l)
		}
	}
	all := bits.List(math.MaxUint64)
	if len(all) != 64 || all[0] != 0 || all[63] != 63 {
		t.Error(all)
	}
}

func TestASetIsItsNumbers(t *testing.T) {
	s := api.Set(0x9e3779b97f4a7c15)
	for range 500 {
		l := bits.List(s)
		if bits.Of(l...) != s || bits.Count(s) != len(l) || !slices.IsSorted(l) {
			t.Fatalf("%b: %v", s, l)
		}
		for n := -3; n < 70; n++ {
			if bits.Has(s, n) != slices.Contains(l, n) {
				t.Fatalf("Has(%b, %d)", s, n)
			}
		}
		s = s*6364136223846793005 + 1442695040888963407
	}
}

func TestWithAndWithout(t *testing.T) {
	s := bits.Of(0, 5, 63)
	for _, n := range []int{-1, 64, 1 << 40, math.MinInt} {
		if bits.With(s, n) != s || bits.Without(s, n) != s || bits.Has(s, n) {
			t.Error(n)
		}
	}
	if bits.With(s, 7) != bits.Of(0, 5, 7, 63) || bits.With(s, 5) != s || bits.Without(s, 63) != bits.Of(0, 5) || bits.Without(s, 7) != s {
		t.Error("with, without")
	}
}

func TestTwoSets(t *testing.T) {
	a, b := bits.Of(0, 5, 63), bits.Of(1, 5)
	if bits.Union(a, b) != bits.Of(0, 1, 5, 63) || bits.Meet(a, b) != bits.Of(5) || bits.Less(a, b) != bits.Of(0, 63) || bits.Less(b, a) != bits.Of(1) {
		t.Error("union, meet, less")
	}
	if !bits.In(0, 0) || !bits.In(0, a) || !bits.In(bits.Of(5), a) || bits.In(a, bits.Of(5)) || bits.In(b, a) || !bits.In(a, a) {
		t.Error("in")
	}
}

func TestCountAndFirst(t *testing.T) {
	for _, x := range []struct {
		s            api.Set
		count, first int
	}{{0, 0, -1}, {1, 1, 0}, {1 << 63, 1, 63}, {bits.Of(9, 4), 2, 4}, {math.MaxUint64, 64, 0}} {
		if bits.Count(x.s) != x.count || bits.First(x.s) != x.first {
			t.Error(x, bits.Count(x.s), bits.First(x.s))
		}
	}
}
