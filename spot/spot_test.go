package spot_test

import (
	"math"
	"strings"
	"syntagm/spot"
	"testing"
)

var texts = []string{"", "\n", "\n\n", "ab\ncd", "ab\ncd\n", "\nab", "a", "\r\n\tx\n\n\nlast", "é\n\xff\n"}

func TestExample(t *testing.T) {
	if got := spot.Of("ab\ncd", 4); got != complex(1, 1) {
		t.Error(got)
	}
}

func TestOfOutsideTheText(t *testing.T) {
	if spot.Of("ab\ncd", -1) != 0 || spot.Of("ab\ncd", math.MinInt) != 0 {
		t.Error("below 0")
	}
	if spot.Of("ab\ncd", 99) != complex(2, 1) || spot.Of("ab\n", math.MaxInt) != complex(0, 1) {
		t.Error("beyond")
	}
}

func TestEachPlaceHasASpot(t *testing.T) {
	for _, text := range texts {
		line, column := 0, 0
		for at := 0; at <= len(text); at++ {
			p := spot.Of(text, at)
			if p != complex(float64(column), float64(line)) {
				t.Errorf("Of(%q, %d) = %v", text, at, p)
			}
			if got := spot.At(text, p); got != at {
				t.Errorf("At(%q, %v) = %d, want %d", text, p, got, at)
			}
			column++
			if at < len(text) && text[at] == '\n' {
				line, column = line+1, 0
			}
		}
	}
}

func TestEachSpotHasOnePlace(t *testing.T) {
	for _, text := range texts {
		found := 0
		for line := -2; line < 12; line++ {
			for column := -2; column < 12; column++ {
				p := complex(float64(column), float64(line))
				if at := spot.At(text, p); at >= 0 {
					found++
					if spot.Of(text, at) != p {
						t.Errorf("At(%q, %v) = %d", text, p, at)
					}
				}
			}
		}
		if found != len(text)+1 {
			t.Errorf("%q has %d spots", text, found)
		}
	}
}

func TestAtOfWhatIsNoSpot(t *testing.T) {
	inf, nan := math.Inf(1), math.NaN()
	for _, p := range []complex128{0.5, 0.5i, -1, -1i, 3, 2i, complex(3, 1), complex(nan, 0), complex(0, nan), complex(inf, 0), complex(0, inf), complex(-inf, -inf), complex(1e300, 0), complex(0, 1e300)} {
		if at := spot.At("ab\ncd", p); at != -1 {
			t.Errorf("At(%v) = %d", p, at)
		}
	}
	if spot.At("ab\ncd", complex(math.Copysign(0, -1), 1)) != 3 {
		t.Error("a zero is whole, whatever its sign")
	}
}

func TestLines(t *testing.T) {
	for _, text := range texts {
		want := strings.Split(text, "\n")
		if spot.Lines(text) != len(want) {
			t.Errorf("Lines(%q) = %d", text, spot.Lines(text))
		}
		for n, line := range want {
			if got := spot.Line(text, n); got != line {
				t.Errorf("Line(%q, %d) = %q", text, n, got)
			}
		}
		for _, n := range []int{-1, len(want), math.MaxInt, math.MinInt} {
			if got := spot.Line(text, n); got != "" {
				t.Errorf("Line(%q, %d) = %q", text, n, got)
			}
		}
	}
}

func TestMove(t *testing.T) {
	for _, x := range []struct{ p, by, want complex128 }{
		{complex(3, 2), complex(4, 0), complex(7, 2)},
		{complex(3, 2), complex(4, 1), complex(4, 3)},
		{0, complex(4, 1), complex(4, 1)},
		{complex(3, 2), 0, complex(3, 2)},
		{complex(3, -2), complex(-4, -1), complex(-4, -3)},
	} {
		if got := spot.Move(x.p, x.by); got != x.want {
			t.Errorf("Move(%v, %v) = %v", x.p, x.by, got)
		}
	}
}

func TestWhatIsBehindAnotherTextIsMoved(t *testing.T) {
	for _, a := range texts {
		for _, b := range texts {
			for at := 0; at <= len(b); at++ {
				if got := spot.Move(spot.Of(a, len(a)), spot.Of(b, at)); got != spot.Of(a+b, len(a)+at) {
					t.Errorf("%q behind %q at %d: %v", b, a, at, got)
				}
			}
		}
	}
}
