package class_test

import (
	"fmt"
	"math"
	"slices"
	"testing"

	"padlock/api"
	"padlock/class"
)

// P12.1: the chapter's example.
func TestExample(t *testing.T) {
	are(t, "the example", 3, row(1, 2, 1), set(0, 2))
}

// P12.1: of no site, and of fewer than none, there are no classes, whatever the sets are.
func TestNoSites(t *testing.T) {
	for _, sites := range []int{0, -1, -2, -63, -64, -65, math.MinInt, math.MinInt + 1, math.MinInt32} {
		are(t, "nothing", sites, nil)
		are(t, "empty sets", sites, nil, 0, 0)
		are(t, "all", sites, nil, math.MaxUint64, 1, set(0, 2), set(63))
	}
}

// P12.1: one site is of the class 1.
func TestOneSite(t *testing.T) {
	are(t, "nothing", 1, row(1))
	for _, list := range [][]uint64{{0}, {1}, {1, 1}, {2}, {3}, {math.MaxUint64}, {0, 1, 0}, {6, 1 << 63}, {1<<63 | 1}} {
		are(t, "one site", 1, row(1), list...)
	}
}

// P12.1: Sets of nothing: rows of nothing, no rows, and sets of no site leave each site alone.
func TestNothing(t *testing.T) {
	for _, sites := range []int{1, 2, 3, 31, 32, 33, 63, 64, 65, 66, 127, 128, 129, 1000} {
		for _, s := range []api.Sets{
			{}, {Slots: [][]uint64{}, Globals: []uint64{}, Fields: [][]uint64{}},
			{Slots: [][]uint64{nil}, Fields: [][]uint64{nil, nil}},
			{Slots: [][]uint64{{}, nil, {0}, {0, 0, 0}}, Globals: []uint64{0, 0}, Fields: [][]uint64{{0}, {}, {0, 0}}},
		} {
			if got := class.Split(sites, s); !slices.Equal(got, count(sites)) {
				t.Errorf("%d sites, %s: %v", sites, listing(s), got)
			}
		}
	}
}

// P12.1: a set of one site joins nothing.
func TestSetsOfOne(t *testing.T) {
	for site := range 6 {
		are(t, "one of one", 6, count(6), set(site))
	}
	are(t, "all sets of one", 6, count(6), 1, 2, 4, 8, 16, 32)
	are(t, "sets of one, and one of two", 4, row(1, 2, 3, 2), 1, 2, 4, set(1, 3), 8)
}

// P12.1, P12.2: a set of two sites joins those, and no other one.
func TestSetsOfTwo(t *testing.T) {
	const sites = 7
	for b := range sites {
		for a := range b {
			want := slices.Concat(count(b), row(a+1))
			for n := b + 1; n < sites; n++ {
				want = append(want, n)
			}
			are(t, fmt.Sprint("the sites ", a, " and ", b), sites, want, set(a, b))
		}
	}
	are(t, "once more", 3, row(1, 2, 2), set(1, 2), set(1, 2), 0, set(1, 2))
}

// P12.1, P12.2: a set of several sites joins all of them; one of all leaves just one class.
func TestSetsOfMore(t *testing.T) {
	are(t, "three", 6, row(1, 2, 3, 2, 4, 2), set(1, 3, 5))
	are(t, "three at the beginning", 5, row(1, 1, 1, 2, 3), set(0, 1, 2))
	are(t, "three at the end", 5, row(1, 2, 3, 3, 3), set(2, 3, 4))
	are(t, "all but one", 5, row(1, 1, 2, 1, 1), set(0, 1, 3, 4))
	are(t, "two of several", 6, row(1, 2, 1, 2, 1, 2), set(0, 2, 4), set(1, 3, 5))
	are(t, "one in another", 6, row(1, 1, 2, 1, 3, 4), set(0, 1, 3), set(1, 3))
	for _, sites := range []int{1, 2, 3, 31, 32, 33, 63, 64} {
		are(t, "all", sites, times(sites, 1), upTo(sites))
		are(t, "all bits", sites, times(sites, 1), math.MaxUint64)
	}
}

// P12.1: bits from sites on play no part: beside bits below, the set is one of those; alone, or with the least one such, it is of nobody.
func TestBitsFromSitesOn(t *testing.T) {
	are(t, "alone", 3, count(3), set(3))
	are(t, "two alone", 3, count(3), set(3, 4), set(62, 63))
	are(t, "all of them", 3, count(3), from(3))
	are(t, "beside one", 3, count(3), set(1, 3))
	are(t, "beside two", 3, row(1, 2, 2), set(1, 2, 3))
	are(t, "beside two, the last bit", 3, row(1, 2, 1), set(0, 2, 63))
	are(t, "beside others alone", 4, row(1, 2, 1, 3), set(4, 5), set(0, 2), set(7))
	// Nor do they bring two together: what isn't a site is no third one.
	are(t, "through one that is none", 2, row(1, 2), set(0, 2), set(1, 2))
	are(t, "through the last bit", 3, count(3), set(0, 63), set(1, 63), set(2, 63))
	are(t, "through a set of such", 2, row(1, 2), set(0, 2), set(2, 3), set(1, 3))
	are(t, "of many", 4, row(1, 1, 2, 3), set(2, 5), set(0, 1, 5), set(3, 5, 6), set(5, 6))
	for sites := 1; sites < 64; sites++ {
		are(t, "the first such", sites, count(sites), set(sites-1, sites), set(sites), from(sites))
	}
	for sites := 2; sites <= 64; sites++ {
		want := append(count(sites-1), 1)
		are(t, "the last site", sites, want, set(0, sites-1), from(sites-1))
	}
}

// P12.1: as many sites as a code may have, and more; behind the 64 that a set can have each is alone.
func TestManySites(t *testing.T) {
	are(t, "as many as may be, the least and the greatest", api.MaxSites, append(count(31), 1), set(0, 31))
	are(t, "the last two", api.MaxSites, append(count(31), 31), set(30, 31))
	are(t, "as many as bits", 64, append(count(63), 1), set(0, 63))
	are(t, "the last two bits", 64, append(count(63), 63), set(62, 63))
	are(t, "the upper half", 64, append(count(32), times(32, 33)...), from(32))
	for _, sites := range []int{65, 66, 100, 127, 128, 129, 192, 256, 300} {
		more := count(sites - 64)
		are(t, "all bits", sites, append(times(64, 1), added(more, 1)...), math.MaxUint64)
		are(t, "the last bit and the first one", sites, slices.Concat(count(63), row(1), added(more, 63)), set(0, 63))
		are(t, "the last two bits", sites, slices.Concat(count(63), row(63), added(more, 63)), set(62, 63))
	}
	const many = 1 << 20
	got := class.Split(many, api.Sets{Globals: row(set(1, 2))})
	if want := slices.Concat(row(1, 2), added(count(many-2), 1)); !slices.Equal(got, want) {
		t.Error("very many sites")
	}
}

// added: each number, and so much.
func added(list []int, more int) []int {
	var out []int
	for _, n := range list {
		out = append(out, n+more)
	}
	return out
}

// P12.1, P12.2: through a third one, wherever that stands among the sites.
func TestThird(t *testing.T) {
	for _, x := range []struct {
		a, b uint64
		want []int
	}{
		{set(0, 1), set(1, 2), row(1, 1, 1, 2)}, {set(0, 2), set(1, 2), row(1, 1, 1, 2)}, {set(0, 1), set(0, 2), row(1, 1, 1, 2)},
		{set(1, 2), set(2, 3), row(1, 2, 2, 2)}, {set(1, 3), set(2, 3), row(1, 2, 2, 2)}, {set(1, 2), set(1, 3), row(1, 2, 2, 2)},
		{set(0, 3), set(1, 3), row(1, 1, 2, 1)}, {set(0, 3), set(0, 1), row(1, 1, 2, 1)},
		{set(0, 1), set(2, 3), row(1, 1, 2, 2)}, {set(0, 3), set(1, 2), row(1, 2, 2, 1)}, {set(0, 2), set(1, 3), row(1, 2, 1, 2)},
		{set(0, 1, 2), set(2, 3), row(1, 1, 1, 1)}, {set(0, 3), set(1, 2, 3), row(1, 1, 1, 1)},
	} {
		are(t, "through a third one", 4, x.want, x.a, x.b)
	}
}

// P12.1, P12.2: through a set that comes last, of classes that have several sites each.
func TestLastSetJoins(t *testing.T) {
	three := row(set(0, 3, 6), set(1, 4, 7), set(2, 5, 8))
	are(t, "three apart", 9, row(1, 2, 3, 1, 2, 3, 1, 2, 3), three...)
	are(t, "two joined", 9, row(1, 2, 2, 1, 2, 2, 1, 2, 2), append(three, set(7, 8))...)
	are(t, "two others joined", 9, row(1, 2, 1, 1, 2, 1, 1, 2, 1), append(three, set(2, 6))...)
	are(t, "all joined", 9, times(9, 1), append(three, set(3, 4, 5))...)
	are(t, "joined one by one", 9, times(9, 1), append(three, set(8, 1), set(6, 7))...)
	are(t, "pairs, and one that has one of each", 8, row(1, 1, 1, 1, 1, 1, 1, 1), set(0, 1), set(2, 3), set(4, 5), set(6, 7), set(1, 3, 5, 7))
	are(t, "pairs, and one of two of them", 8, row(1, 1, 2, 2, 3, 3, 2, 2), set(0, 1), set(2, 3), set(4, 5), set(6, 7), set(2, 7))
}

// P12.1, P12.2: chains of sets, in all orders in which they can stand.
func TestChains(t *testing.T) {
	for name, way := range map[string][]int{"rising": {0, 1, 2, 3, 4, 5}, "falling": {5, 4, 3, 2, 1, 0}, "to and fro": {0, 5, 1, 4, 2, 3}, "from within": {2, 4, 0, 5, 1, 3}} {
		var links []uint64
		for n := range len(way) - 1 {
			links = append(links, set(way[n], way[n+1]))
		}
		orders(links, func(list []uint64) {
			if got := class.Split(7, api.Sets{Globals: list}); !slices.Equal(got, row(1, 1, 1, 1, 1, 1, 2)) {
				t.Errorf("%s, %b: %v", name, list, got)
			}
			// Without its last link it is two chains.
			short := list[:len(list)-1]
			if got, want := class.Split(7, api.Sets{Slots: row(nil, short)}), told(7, short); !slices.Equal(got, want) || slices.Max(got) != 3 {
				t.Errorf("%s, %b: %v, not %v", name, short, got, want)
			}
		})
	}
}

// orders goes over all orders of a list.
func orders(list []uint64, use func([]uint64)) {
	var fill func(ahead, left []uint64)
	fill = func(ahead, left []uint64) {
		if len(left) == 0 {
			use(ahead)
		}
		for n, s := range left {
			fill(slices.Concat(ahead, row(s)), slices.Concat(left[:n], left[n+1:]))
		}
	}
	fill(nil, list)
}

// P12.1, P12.2: the longest chains, and stars, of as many sites as there may be.
func TestLongChains(t *testing.T) {
	for _, sites := range []int{api.MaxSites, 64} {
		var links, odd, star []uint64
		for n := range sites - 1 {
			links = append(links, set(n, n+1))
			star = append(star, set(sites/2, n), set(sites/2, n+1))
			if n < sites-2 {
				odd = append(odd, set(n, n+2))
			}
		}
		are(t, "a chain", sites, times(sites, 1), links...)
		are(t, "a star", sites, times(sites, 1), star...)
		are(t, "two chains", sites, slices.Repeat(row(1, 2), sites/2), odd...)
		for _, at := range []int{0, 1, sites / 2, sites - 2} {
			want := append(times(at+1, 1), times(sites-1-at, 2)...)
			are(t, "a broken chain", sites, want, slices.Concat(links[:at], links[at+1:])...)
		}
	}
}

// P12.1: classes count on from 1, in the order of their least sites, whichever set comes first.
func TestNumbers(t *testing.T) {
	are(t, "the last ones first", 6, row(1, 2, 3, 3, 2, 1), set(2, 3), set(1, 4), set(0, 5))
	are(t, "alone between", 7, row(1, 2, 3, 2, 4, 5, 5), set(5, 6), set(1, 3))
	are(t, "the first one alone", 5, row(1, 2, 3, 3, 2), set(2, 3), set(1, 4))
	are(t, "joined late, the numbers close up", 6, row(1, 1, 2, 1, 3, 3), set(4, 5), set(1, 3), set(0, 3))
	are(t, "a new least one", 5, row(1, 2, 2, 3, 2), set(2, 4), set(1, 4))
}

// P12.1: rows of different lengths, of all three kinds; a site in sets of each.
func TestRows(t *testing.T) {
	for _, x := range []struct {
		s    api.Sets
		want []int
	}{
		{api.Sets{Slots: [][]uint64{{set(0, 1)}, {0, set(2, 3)}, nil, {0, 0, set(4, 5)}}}, row(1, 1, 2, 2, 3, 3)},
		{api.Sets{Fields: [][]uint64{nil, {set(0, 5)}, {}, {0, set(1, 4), 0}, {set(2, 3)}}}, row(1, 2, 3, 3, 2, 1)},
		{api.Sets{Globals: []uint64{0, set(1, 5), 0, set(2, 4)}}, row(1, 2, 3, 4, 3, 2)},
		{api.Sets{Slots: [][]uint64{nil, {0, set(0, 1)}}, Globals: []uint64{0, set(1, 2)}, Fields: [][]uint64{{}, {set(2, 3)}}}, row(1, 1, 1, 1, 2, 3)},
		{api.Sets{Slots: [][]uint64{{set(3, 4)}}, Globals: []uint64{set(1, 2)}, Fields: [][]uint64{{set(0, 5)}}}, row(1, 2, 2, 3, 3, 1)},
		{api.Sets{Slots: [][]uint64{{set(0, 3)}}, Fields: [][]uint64{{set(3, 5)}}}, row(1, 2, 3, 1, 4, 1)},
		{api.Sets{Slots: [][]uint64{{set(0, 3)}}, Globals: []uint64{set(3, 4)}}, row(1, 2, 3, 1, 1, 4)},
		{api.Sets{Globals: []uint64{set(2, 3)}, Fields: [][]uint64{{set(3, 5)}}}, row(1, 2, 3, 3, 4, 3)},
	} {
		if got := class.Split(6, x.s); !slices.Equal(got, x.want) {
			t.Errorf("%s: %v, not %v", listing(x.s), got, x.want)
		}
	}
}
