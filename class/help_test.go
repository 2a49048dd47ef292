package class_test

import (
	"fmt"
	"slices"
	"testing"

	"padlock/api"
	"padlock/class"
)

func row[T any](list ...T) []T { return list }

// set: that of those sites.
func set(sites ...int) uint64 {
	var out uint64
	for _, site := range sites {
		out |= 1 << site
	}
	return out
}

// upTo: the set of so many sites, from 0 on.
func upTo(sites int) uint64 {
	var out uint64
	for site := range sites {
		out |= 1 << site
	}
	return out
}

// from: the set of all sites from one on.
func from(site int) uint64 { return ^upTo(site) }

// count: the numbers from 1 to n.
func count(n int) []int {
	var out []int
	for k := range n {
		out = append(out, k+1)
	}
	return out
}

// times: so many of one thing.
func times[T any](n int, of T) []T { return slices.Repeat(row(of), n) }

// homes: Sets of just those sets, as slots, globals and fields, in one row or in rows of different lengths.
func homes(list ...uint64) []api.Sets {
	var apart, padded [][]uint64
	for n, s := range list {
		apart = append(apart, row(s))
		padded = append(padded, nil, append(times(n%3, uint64(0)), s, 0), row[uint64]())
	}
	out := row(
		api.Sets{Slots: row(list)}, api.Sets{Globals: list}, api.Sets{Fields: row(list)},
		api.Sets{Slots: apart}, api.Sets{Fields: apart}, api.Sets{Slots: padded}, api.Sets{Fields: padded},
	)
	for at := range len(list) + 1 {
		low, high := list[:at], list[at:]
		out = append(out,
			api.Sets{Slots: row(nil, low), Globals: high},
			api.Sets{Slots: apart[at:], Fields: row(low, nil, row(uint64(0)))},
			api.Sets{Globals: low, Fields: apart[at:]},
			api.Sets{Slots: apart[:at/2], Globals: list[at/2 : at], Fields: row(nil, nil, high)})
	}
	return out
}

// are: that the classes of so many sites are those, wherever the sets stand, and in whichever order, and that the other telling says the same.
func are(t *testing.T, what string, sites int, want []int, list ...uint64) {
	t.Helper()
	if got := told(sites, list); !slices.Equal(got, want) {
		t.Fatalf("%s: the other telling says %v, not %v", what, got, want)
	}
	turned := slices.Clone(list)
	slices.Reverse(turned)
	for _, s := range append(homes(list...), homes(turned...)...) {
		if got := class.Split(sites, s); !slices.Equal(got, want) {
			t.Errorf("%s: %d sites, %s: %v, not %v", what, sites, listing(s), got, want)
		}
	}
}

// listing: all sets, as bits.
func listing(s api.Sets) string {
	return fmt.Sprintf("slots %b globals %b fields %b", s.Slots, s.Globals, s.Fields)
}

// flat: all sets of Sets, in one row.
func flat(s api.Sets) []uint64 {
	return slices.Concat(slices.Concat(s.Slots...), s.Globals, slices.Concat(s.Fields...))
}

// told tells the classes once more, by the chapter's words: which two sites are of one class, until no third one brings two together; then a number for each that has none below it.
func told(sites int, list []uint64) []int {
	if sites < 1 {
		return nil
	}
	one := make([][]bool, sites)
	for a := range one {
		one[a] = make([]bool, sites)
		for b := range one[a] {
			one[a][b] = a == b || slices.ContainsFunc(list, func(s uint64) bool { return s>>a&1 == 1 && s>>b&1 == 1 })
		}
	}
	for third := range sites {
		for a := range sites {
			for b := range sites {
				one[a][b] = one[a][b] || one[a][third] && one[third][b]
			}
		}
	}
	var out []int
	most := 0
	for site := range sites {
		least := slices.Index(one[site], true)
		if least == site {
			most++
			out = append(out, most)
		} else {
			out = append(out, out[least])
		}
	}
	return out
}
