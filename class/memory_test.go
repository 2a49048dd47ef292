package class_test

import (
	"math"
	"math/rand"
	"slices"
	"testing"

	"padlock/api"
	"padlock/class"
)

// spare stands in the room behind rows: it would join all.
const spare = math.MaxUint64

// roomy gives a row new memory, with some room behind it.
func roomy(list []uint64) []uint64 {
	wide := append(slices.Clone(list), spare, spare)
	return wide[:len(list)]
}

// roomyRows: likewise, of rows; in the room behind them stands one more row.
func roomyRows(rows [][]uint64) [][]uint64 {
	var wide [][]uint64
	for _, list := range rows {
		wide = append(wide, roomy(list))
	}
	return append(wide, row[uint64](spare))[:len(rows)]
}

// whole: all rows of Sets, with the room behind them.
func whole(s api.Sets) [][]uint64 {
	out := row(s.Globals[:cap(s.Globals)])
	for _, rows := range [][][]uint64{s.Slots, s.Fields} {
		for _, list := range rows[:cap(rows)] {
			out = append(out, list[:cap(list)])
		}
	}
	return out
}

func copied(rows [][]uint64) [][]uint64 {
	var out [][]uint64
	for _, list := range rows {
		out = append(out, slices.Clone(list))
	}
	return out
}

// P12.1, rule 3: Sets handed in stay as they were, and so does the room behind their rows, which plays no part.
func TestSetsStay(t *testing.T) {
	r := rand.New(rand.NewSource(3))
	for range 3000 {
		s, sites := someSets(r), r.Intn(40)-1
		wide := api.Sets{Slots: roomyRows(s.Slots), Globals: roomy(s.Globals), Fields: roomyRows(s.Fields)}
		was := copied(whole(wide))
		if got, want := class.Split(sites, wide), told(sites, flat(s)); !slices.Equal(got, want) {
			t.Fatalf("%d sites, %s: %v, not %v", sites, listing(s), got, want)
		}
		if now := whole(wide); !slices.EqualFunc(now, was, slices.Equal[[]uint64]) {
			t.Fatalf("%d sites: %b, not %b", sites, now, was)
		}
	}
}

// P12.1, rules 3 and 4: an answer is new memory each time, and nothing of a call is kept.
func TestNothingIsKept(t *testing.T) {
	s := api.Sets{Slots: row(row(set(0, 2))), Globals: row(set(1, 3)), Fields: row(row(set(4)))}
	first, second := class.Split(5, s), class.Split(5, s)
	for n := range first {
		first[n] = 99
	}
	_ = append(first[:2], 98, 97)
	if want := row(1, 2, 1, 2, 3); !slices.Equal(second, want) || !slices.Equal(class.Split(5, s), want) {
		t.Errorf("%v, then %v", second, class.Split(5, s))
	}
	s.Globals[0] = 0
	s.Slots[0][0] = set(0, 4)
	if got := class.Split(5, s); !slices.Equal(got, row(1, 2, 3, 4, 1)) || !slices.Equal(second, row(1, 2, 1, 2, 3)) {
		t.Errorf("of other sets: %v; the earlier answer: %v", got, second)
	}
	if got := class.Split(5, api.Sets{}); !slices.Equal(got, count(5)) {
		t.Errorf("of no sets: %v", got)
	}
}
