package class_test

import (
	"math"
	"math/rand"
	"slices"
	"testing"

	"padlock/api"
	"padlock/class"
)

// P12.1: of no set there is no class.
func TestOfNothing(t *testing.T) {
	for _, classes := range [][]int{nil, {}, {1}, {7, 9}, count(32), count(64), count(65)} {
		if got := class.Of(0, classes...); got != 0 {
			t.Errorf("of nothing, %v: %d", classes, got)
		}
	}
	if class.Of(0) != 0 {
		t.Error("of nothing, with no classes")
	}
}

// P12.1: with no classes there is none, whatever the set.
func TestOfNoClasses(t *testing.T) {
	for _, s := range []uint64{1, 2, 3, 1 << 31, 1 << 63, math.MaxUint64} {
		if class.Of(s) != 0 || class.Of(s, row[int]()...) != 0 {
			t.Errorf("%b: a class out of none", s)
		}
	}
}

// P12.1: of a set of one site it is that site's class, if there is one for it.
func TestOfOne(t *testing.T) {
	classes := added(count(70), 100)
	for site := range 64 {
		for n := range 71 {
			want := 0
			if site < n {
				want = 101 + site
			}
			if got := class.Of(set(site), classes[:n]...); got != want {
				t.Errorf("the site %d of %d: %d, not %d", site, n, got, want)
			}
		}
	}
}

// P12.1: of a set of several, it is the class of the least one, with fewer classes than sites, and with as many.
func TestOfSeveral(t *testing.T) {
	for _, x := range []struct {
		set     uint64
		classes []int
		want    int
	}{
		{set(0, 1), row(7, 9), 7}, {set(0, 1), row(9, 7), 9}, {set(1, 2), row(1, 5, 6), 5}, {set(1, 2), row(1, 5), 5},
		{set(1, 2), row(1), 0}, {set(2, 3), row(7, 9), 0}, {set(2, 63), row(1, 2, 3), 3}, {set(2, 63), row(1, 2), 0},
		{set(62, 63), count(64), 63}, {set(62, 63), count(63), 63}, {set(62, 63), count(62), 0}, {set(0, 63), row(4), 4},
		{math.MaxUint64, row(3, 2, 1), 3}, {math.MaxUint64 - 1, row(3, 2, 1), 2}, {math.MaxUint64 - 3, row(3, 2, 1), 1}, {math.MaxUint64 - 7, row(3, 2, 1), 0},
		// It is told as it stands, whatever number that is.
		{set(0, 1), row(0, 5), 0}, {set(1, 2), row(5, 0, 6), 0}, {set(0, 1), row(-4, 5), -4}, {set(1), row(0, math.MinInt), math.MinInt}, {set(1, 3), row(0, math.MaxInt, 1, 2), math.MaxInt},
	} {
		if got := class.Of(x.set, x.classes...); got != x.want {
			t.Errorf("%b, %v: %d, not %d", x.set, x.classes, got, x.want)
		}
	}
}

// leastClass tells it once more: the sites are asked one by one.
func leastClass(s uint64, classes []int) int {
	for site := range 64 {
		if s>>site&1 == 1 {
			if site < len(classes) {
				return classes[site]
			}
			return 0
		}
	}
	return 0
}

// P12.1: of sets and classes made by chance.
func TestOfMany(t *testing.T) {
	r := rand.New(rand.NewSource(12))
	for range 20000 {
		s := r.Uint64() << r.Intn(64) & r.Uint64()
		classes := make([]int, r.Intn(70))
		for n := range classes {
			classes[n] = r.Intn(40) - 3
		}
		if got, want := class.Of(s, classes...), leastClass(s, classes); got != want {
			t.Fatalf("%b, %v: %d, not %d", s, classes, got, want)
		}
	}
}

// P12.1: room behind the classes isn't looked at; P12.1, rule 3: nothing handed in is changed.
func TestOfRoom(t *testing.T) {
	classes := row(5, 6, 7, 8)
	was := slices.Clone(classes)
	for n := range len(classes) + 1 {
		for s := range uint64(1 << 5) {
			if got, want := class.Of(s, classes[:n]...), leastClass(s, was[:n]); got != want || !slices.Equal(classes, was) {
				t.Errorf("%b, %v: %d, not %d; then %v", s, was[:n], got, want, classes)
			}
		}
	}
}

// P12.1, P12.2: with Split's classes, it is the class of each site of the set.
func TestOfSplit(t *testing.T) {
	list := row(set(2, 5), set(1, 4), set(4, 7), set(3))
	classes := class.Split(8, api.Sets{Globals: list})
	for n, want := range []int{3, 2, 2, 4} {
		for range 2 {
			if got := class.Of(list[n], classes...); got != want {
				t.Errorf("%b: %d, not %d", list[n], got, want)
			}
		}
	}
	if class.Of(set(8), classes...) != 0 || class.Of(set(0, 8), classes...) != 1 {
		t.Error(classes)
	}
}
