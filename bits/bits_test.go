package bits

import (
	"math"
	"slices"
	"testing"

	"syntagm/api"
)

func TestOfTakesWhatASetCanHave(t *testing.T) {
	for _, x := range []struct {
		in   []int
		want api.Set
	}{
		{nil, 0},
		{[]int{3, 1, 64}, 10},
		{[]int{0}, 1},
		{[]int{63, 63}, 1 << 63},
		{[]int{-1, 64, math.MaxInt, math.MinInt, 1 << 40}, 0},
	} {
		if got := Of(x.in...); got != x.want {
			t.Errorf("Of(%v) = %b, want %b", x.in, got, x.want)
		}
	}
}

func TestOfLeavesItsArgument(t *testing.T) {
	l := []int{5, 99, 2}
	Of(l...)
	if !slices.Equal(l, []int{5, 99, 2}) {
		t.Error(l)
	}
}

func TestListIsRising(t *testing.T) {
	for _, l := range [][]int{nil, {0}, {63}, {0, 5, 63}, {1, 2, 3, 4}} {
		if got := List(Of(l...)); !slices.Equal(got, l) {
			t.Errorf("List = %v, want %v", got, l)
		}
	}
	all := List(math.MaxUint64)
	if len(all) != 64 || all[0] != 0 || all[63] != 63 {
		t.Error(all)
	}
}

func TestASetIsItsNumbers(t *testing.T) {
	s := api.Set(0x9e3779b97f4a7c15)
	for range 500 {
		l := List(s)
		if Of(l...) != s || Count(s) != len(l) || !slices.IsSorted(l) {
			t.Fatalf("%b: %v", s, l)
		}
		for n := -3; n < 70; n++ {
			if Has(s, n) != slices.Contains(l, n) {
				t.Fatalf("Has(%b, %d)", s, n)
			}
		}
		s = s*6364136223846793005 + 1442695040888963407
	}
}

func TestWithAndWithout(t *testing.T) {
	s := Of(0, 5, 63)
	for _, n := range []int{-1, 64, 1 << 40, math.MinInt} {
		if With(s, n) != s || Without(s, n) != s || Has(s, n) {
			t.Error(n)
		}
	}
	if With(s, 7) != Of(0, 5, 7, 63) || With(s, 5) != s || Without(s, 63) != Of(0, 5) || Without(s, 7) != s {
		t.Error("with, without")
	}
}

func TestTwoSets(t *testing.T) {
	a, b := Of(0, 5, 63), Of(1, 5)
	if Union(a, b) != Of(0, 1, 5, 63) || Meet(a, b) != Of(5) || Less(a, b) != Of(0, 63) || Less(b, a) != Of(1) {
		t.Error("union, meet, less")
	}
	if !In(0, 0) || !In(0, a) || !In(Of(5), a) || In(a, Of(5)) || In(b, a) || !In(a, a) {
		t.Error("in")
	}
}

func TestCountAndFirst(t *testing.T) {
	for _, x := range []struct {
		s            api.Set
		count, first int
	}{{0, 0, -1}, {1, 1, 0}, {1 << 63, 1, 63}, {Of(9, 4), 2, 4}, {math.MaxUint64, 64, 0}} {
		if Count(x.s) != x.count || First(x.s) != x.first {
			t.Error(x, Count(x.s), First(x.s))
		}
	}
}
