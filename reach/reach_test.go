package reach

import (
	"math/rand/v2"
	"testing"

	"yarrow/api"
)

func TestPlacesUpToTheLast(t *testing.T) {
	for place := range api.MaxText + 1 {
		var one Places
		one.Add(place)
		for other := range api.MaxText + 1 {
			if one.Has(other) != (other == place) {
				t.Errorf("a set of %d alone: has %d: %v", place, other, one.Has(other))
			}
		}
	}
}

// some has stretches at random of a text of that length.
func some(from *rand.Rand, length int) Map {
	m := None(length)
	for range from.IntN(3 * length) {
		begin := from.IntN(length + 1)
		m[begin].Add(begin + from.IntN(min(9, length-begin)+1))
	}
	return m
}

// joined tells whether the stretch is one of a and, behind it, one of b.
func joined(a, b Map, from, to int) bool {
	for middle := from; middle <= to; middle++ {
		if a[from].Has(middle) && b[middle].Has(to) {
			return true
		}
	}
	return false
}

func TestMapsStretchByStretch(t *testing.T) {
	for seed := range uint64(20) {
		source := rand.New(rand.NewPCG(seed, 1))
		length := 1 + source.IntN(api.MaxText)
		if seed == 0 {
			length = api.MaxText
		}
		a, b := some(source, length), some(source, length)
		or, then, any := a.Or(b), a.Then(b), a.AnyTimes()
		for from := range length + 1 {
			for to := from; to <= length; to++ {
				if or[from].Has(to) != (a[from].Has(to) || b[from].Has(to)) {
					t.Fatalf("Or has %d to %d: %v", from, to, or[from].Has(to))
				}
				if then[from].Has(to) != joined(a, b, from, to) {
					t.Fatalf("Then has %d to %d: %v", from, to, then[from].Has(to))
				}
				if any[from].Has(to) != (from == to || joined(a.AnyTimes(), a, from, to)) {
					t.Fatalf("AnyTimes has %d to %d: %v", from, to, any[from].Has(to))
				}
			}
		}
	}
}

func TestLongest(t *testing.T) {
	a, b := None(5), Empty(5)
	a[1].Add(1)
	a[1].Add(2)
	a[1].Add(3)
	b[2].Add(5)
	b[1].Add(4)
	for _, c := range []struct{ to, want int }{{1, 1}, {2, 2}, {3, 3}, {4, 1}, {5, 2}} {
		if got := a.Longest(b, 1, c.to); got != c.want {
			t.Errorf("the longest up to %d ends at %d, want %d", c.to, got, c.want)
		}
	}
}
