package class_test

import (
	"fmt"
	"math/rand"
	"slices"
	"testing"

	"padlock/api"
	"padlock/class"
)

// P12.1: all Sets of up to three sets, of up to three sites, with bits from sites on.
func TestAllSmall(t *testing.T) {
	for sites := -1; sites <= 3; sites++ {
		for a := range uint64(32) {
			for b := range uint64(32) {
				for c := range uint64(32) {
					got := class.Split(sites, api.Sets{Slots: row(row(a)), Globals: row(b), Fields: row(nil, row(c))})
					if want := told(sites, row(a, b, c)); !slices.Equal(got, want) {
						t.Fatalf("%d sites, %b %b %b: %v, not %v", sites, a, b, c, got, want)
					}
				}
			}
		}
	}
}

// someSets: Sets made by chance, of few bits each, or of many.
func someSets(r *rand.Rand) api.Sets {
	wide, dense := 1+r.Intn(66), r.Intn(3)
	one := func() uint64 {
		var out uint64
		for range r.Intn(4) {
			out |= 1 << r.Intn(wide)
		}
		if dense == 0 && r.Intn(9) == 0 {
			out |= r.Uint64() & r.Uint64()
		}
		return out
	}
	some := func() []uint64 {
		var out []uint64
		for range r.Intn(6) {
			out = append(out, one())
		}
		return out
	}
	s := api.Sets{Globals: some()}
	for range r.Intn(5) {
		s.Slots = append(s.Slots, some())
	}
	for range r.Intn(5) {
		s.Fields = append(s.Fields, some())
	}
	return s
}

// P12.1: Sets made by chance, against the other telling; in another order, and in other places, they say the same.
func TestMany(t *testing.T) {
	r := rand.New(rand.NewSource(1))
	seen := map[int]int{}
	for range 20000 {
		s, sites := someSets(r), r.Intn(68)-1
		got, want := class.Split(sites, s), told(sites, flat(s))
		if !slices.Equal(got, want) {
			t.Fatalf("%d sites, %s: %v, not %v", sites, listing(s), got, want)
		}
		if sites > 0 {
			seen[slices.Max(got)]++
		}
		list := flat(s)
		r.Shuffle(len(list), func(a, b int) { list[a], list[b] = list[b], list[a] })
		at := r.Intn(len(list) + 1)
		if again := class.Split(sites, api.Sets{Slots: row(list[:at]), Fields: row(nil, list[at:])}); !slices.Equal(again, got) {
			t.Fatalf("%d sites, %s: %v; in another order: %v", sites, listing(s), got, again)
		}
	}
	for n := 1; n < 60; n++ {
		if seen[n] == 0 {
			t.Errorf("nothing of %d classes came by", n)
		}
	}
}

// holds: whether all sites of a set, of those that there are, are of one part of a partition, for all sets.
func holds(parts []int, list []uint64) bool {
	return !slices.ContainsFunc(list, func(s uint64) bool {
		of := 0
		for site, part := range parts {
			if s>>site&1 == 0 {
				continue
			}
			if of != 0 && of != part {
				return true
			}
			of = part
		}
		return false
	})
}

// within: whether what one partition has together another one has, too.
func within(fine, coarse []int) bool {
	for a := range fine {
		for b := range a {
			if fine[a] == fine[b] && coarse[a] != coarse[b] {
				return false
			}
		}
	}
	return true
}

// partitions: all of so many sites, numbered from 1 on in the order of their least ones.
func partitions(sites int) [][]int {
	if sites == 0 {
		return row(row[int]())
	}
	var out [][]int
	for _, parts := range partitions(sites - 1) {
		most := 0
		for _, part := range parts {
			most = max(most, part)
		}
		for part := range most + 1 {
			out = append(out, slices.Concat(parts, row(part+1)))
		}
	}
	return out
}

// P12.2: all sites of a set are of one class; and all partitions of which that holds, of all that there are, are coarser, or the same.
func TestFinest(t *testing.T) {
	r := rand.New(rand.NewSource(2))
	for sites := range 7 {
		all := partitions(sites)
		if want := []int{1, 1, 2, 5, 15, 52, 203}[sites]; len(all) != want {
			t.Fatalf("%d partitions of %d sites", len(all), sites)
		}
		met := map[string]bool{}
		for range 1500 {
			var list []uint64
			for range r.Intn(6) {
				list = append(list, set(r.Intn(8), r.Intn(8))|set(r.Intn(8))&uint64(r.Intn(256)))
			}
			got := class.Split(sites, api.Sets{Globals: list})
			met[fmt.Sprint(got)] = true
			if !holds(got, list) || !slices.ContainsFunc(all, func(parts []int) bool { return slices.Equal(parts, got) }) {
				t.Fatalf("%d sites, %b: %v", sites, list, got)
			}
			for _, parts := range all {
				if holds(parts, list) && !within(got, parts) {
					t.Fatalf("%d sites, %b: %v, and not %v", sites, list, got, parts)
				}
			}
		}
		if len(met) < len(all)*2/3 {
			t.Errorf("%d sites: of %d partitions just %d came by", sites, len(all), len(met))
		}
	}
}

// P12.2: each partition is that of its own parts as sets, and of a chain through each part.
func TestEachPartition(t *testing.T) {
	for sites := range 8 {
		for _, parts := range partitions(sites) {
			var list, chained []uint64
			for part := 1; part <= sites; part++ {
				var whole uint64
				last := -1
				for site, of := range parts {
					if of != part {
						continue
					}
					if whole |= set(site); last >= 0 {
						chained = append(chained, set(last, site))
					}
					last = site
				}
				list = append(list, whole)
			}
			slices.Reverse(chained)
			for _, s := range []api.Sets{{Slots: row(list)}, {Fields: row(nil, chained)}} {
				if got := class.Split(sites, s); !slices.Equal(got, parts) {
					t.Fatalf("%s: %v, not %v", listing(s), got, parts)
				}
			}
		}
	}
}
