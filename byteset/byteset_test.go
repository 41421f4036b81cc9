package byteset

import (
	"slices"
	"testing"
)

func TestStretches(t *testing.T) {
	var mixed Set
	mixed.AddRange(250, 255)
	mixed.AddRange(3, 4)
	mixed.AddRange(5, 5)
	mixed.AddRange(7, 7)
	for _, c := range []struct {
		set  Set
		want []Stretch
	}{
		{Set{}, nil},
		{One(0), []Stretch{{0, 0}}},
		{One(255), []Stretch{{255, 255}}},
		{All(), []Stretch{{0, 255}}},
		{One(9).Others(), []Stretch{{0, 8}, {10, 255}}},
		{mixed, []Stretch{{3, 5}, {7, 7}, {250, 255}}},
	} {
		if got := c.set.Stretches(); !slices.Equal(got, c.want) {
			t.Errorf("Stretches = %v, want %v", got, c.want)
		}
	}
}

func TestClasses(t *testing.T) {
	for name, want := range map[string][]Stretch{
		"digit": {{'0', '9'}},
		"lower": {{'a', 'z'}},
		"upper": {{'A', 'Z'}},
		"alpha": {{'A', 'Z'}, {'a', 'z'}},
		"alnum": {{'0', '9'}, {'A', 'Z'}, {'a', 'z'}},
		"space": {{9, 13}, {32, 32}},
		"punct": {{33, 47}, {58, 64}, {91, 96}, {123, 126}},
	} {
		var s Set
		s.AddClass(name)
		if got := s.Stretches(); !slices.Equal(got, want) {
			t.Errorf("%s holds %v, want %v", name, got, want)
		}
		for i := range name {
			if !IsClass(name) || IsClass(name[:i]) || !BeginsClass(name[:i+1]) || BeginsClass(name[:i]+"_") {
				t.Errorf("%s is not known, letter by letter", name)
			}
		}
	}
}

func TestAnySize(t *testing.T) {
	var beside, mixed Set
	for _, b := range []byte{'A' - 1, 'Z' + 1, 'a' - 1, 'z' + 1, 'a' + 128, 'A' + 128, 1} {
		beside[b] = true
	}
	mixed.AddRange('Y', 'b')
	for _, c := range []struct {
		set  Set
		want []Stretch
	}{
		{Set{}, nil},
		{All(), []Stretch{{0, 255}}},
		{beside, beside.Stretches()},
		{One('a'), []Stretch{{'A', 'A'}, {'a', 'a'}}},
		{One('Z'), []Stretch{{'Z', 'Z'}, {'z', 'z'}}},
		{One('m').Others(), []Stretch{{0, 255}}},
		{mixed, []Stretch{{'A', 'B'}, {'Y', 'b'}, {'y', 'z'}}},
	} {
		before := c.set
		if got := c.set.AnySize().Stretches(); !slices.Equal(got, c.want) || c.set != before {
			t.Errorf("AnySize of %v = %v, want %v", before.Stretches(), got, c.want)
		}
	}
}
