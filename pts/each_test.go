package pts_test

import (
	"math/rand"
	"slices"
	"testing"

	"padlock/pts"
)

// bitsOf: the numbers of a set's bits, asked one by one.
func bitsOf(set uint64) []int {
	var out []int
	for k := range 64 {
		if set>>k&1 == 1 {
			out = append(out, k)
		}
	}
	return out
}

// someSets: sets of none, of one, of all but one, of all, of runs, and by chance.
func someSets() []uint64 {
	sets := []uint64{0, ^uint64(0), 1<<63 | 1, 1<<63 | 5, 1<<32 | 1<<31, 0xaaaaaaaaaaaaaaaa, 0x5555555555555555}
	for k := range 64 {
		sets = append(sets, 1<<k, ^(uint64(1) << k), 1<<k-1, ^(uint64(1)<<k - 1))
	}
	r := rand.New(rand.NewSource(11))
	for range 300 {
		sets = append(sets, r.Uint64(), r.Uint64()&r.Uint64()&r.Uint64())
	}
	return sets
}

// P11.1: the numbers of the bits that are 1, rising; anew each time it is gone over.
func TestEach(t *testing.T) {
	for _, set := range someSets() {
		all := pts.Each(set)
		for range 2 {
			if got := slices.Collect(all); !slices.Equal(got, bitsOf(set)) {
				t.Errorf("%b: %v", set, got)
			}
		}
	}
	for set, want := range map[uint64][]int{0: nil, 1: {0}, 1 << 63: {63}, 1<<63 | 5: {0, 2, 63}, 6: {1, 2}} {
		if got := slices.Collect(pts.Each(set)); !slices.Equal(got, want) {
			t.Errorf("%b: %v", set, got)
		}
	}
}

// P11.1, rule 9: it may be left behind each number, the first and the last one, too; nobody is asked any more then.
func TestEachLeft(t *testing.T) {
	for _, set := range someSets() {
		all, want := pts.Each(set), bitsOf(set)
		for size := range len(want) {
			var got []int
			for k := range all {
				if got = append(got, k); len(got) == size+1 {
					break
				}
			}
			if !slices.Equal(got, want[:size+1]) {
				t.Errorf("%b, left behind %d: %v", set, size+1, got)
			}
			asked := 0
			all(func(int) bool {
				asked++
				return asked <= size
			})
			if asked != size+1 {
				t.Errorf("%b: asked %d times, not %d", set, asked, size+1)
			}
		}
	}
}

// P11.1: while it is gone over it may be gone over anew: neither sees the other.
func TestEachWithin(t *testing.T) {
	all := pts.Each(1<<63 | 1<<40 | 3)
	var got []int
	for a := range all {
		for b := range all {
			if got = append(got, a, b); b == a {
				break
			}
		}
	}
	want := []int{0, 0, 1, 0, 1, 1, 40, 0, 40, 1, 40, 40, 63, 0, 63, 1, 63, 40, 63, 63}
	if !slices.Equal(got, want) {
		t.Error(got)
	}
}
