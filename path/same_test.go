package path_test

import (
	"math"
	"slices"
	"testing"

	"padlock/api"
	"padlock/path"
)

// same: that two paths are the same, or aren't, whichever is asked first; and that rows of other memory, and with room behind them, are the same.
func same(t *testing.T, a, b api.Path, want bool) {
	t.Helper()
	for _, p := range [][2]api.Path{{a, b}, {b, a}, {grown(a), b}, {b, grown(a)}} {
		if path.Same(p[0], p[1]) != want {
			t.Errorf("%+v and %+v: %v", p[0], p[1], !want)
		}
	}
}

// grown: a path with room behind its fields, in which something stands.
func grown(p api.Path) api.Path {
	p.Fields = append(slices.Clone(p.Fields), 7)[:len(p.Fields)]
	return p
}

// P13.1: Same: of two that are the same, that differ in one thing, and in length.
func TestSame(t *testing.T) {
	for _, n := range []int{0, 1, 63, -1, math.MinInt, math.MaxInt} {
		for _, global := range []bool{false, true} {
			for _, fields := range [][]int{nil, {}, {0}, {5}, {0, 0}, {1, 2, 3}, {-1, math.MaxInt, 1 << 32}, {1, 2, 3, 4, 5}} {
				p := api.Path{Global: global, N: n, Fields: fields}
				same(t, p, api.Path{Global: global, N: n, Fields: slices.Clone(fields)}, true)
				same(t, p, api.Path{Global: !global, N: n, Fields: fields}, false)
				for _, other := range []int{n + 1, n - 1, ^n, n ^ 1<<32} {
					same(t, p, api.Path{Global: global, N: other, Fields: fields}, false)
				}
				same(t, p, api.Path{Global: global, N: n, Fields: append(slices.Clone(fields), 0)}, false)
				same(t, p, api.Path{Global: global, N: n, Fields: slices.Insert(slices.Clone(fields), 0, 0)}, false)
				for at := range fields {
					same(t, p, api.Path{Global: global, N: n, Fields: fields[:at]}, false)
					same(t, p, api.Path{Global: global, N: n, Fields: fields[at+1:]}, false)
					for _, by := range []int{1, -1, 1 << 32, math.MinInt} {
						changed := slices.Clone(fields)
						changed[at] += by
						same(t, p, api.Path{Global: global, N: n, Fields: changed}, false)
					}
				}
			}
		}
	}
	same(t, api.Path{}, api.Path{Fields: []int{}}, true)
	same(t, api.Path{Fields: []int{1, 2}}, api.Path{Fields: []int{2, 1}}, false)
	same(t, api.Path{N: 1}, api.Path{Fields: []int{1}}, false)
	same(t, api.Path{Global: true}, api.Path{N: 1}, false)
}

// P13.1: Same of what Of answers: the same just if the texts are.
func TestSameOfAnswers(t *testing.T) {
	asked, alike := 0, 0
	m := made(5)
	for range 300 {
		c := m.code(8, 14)
		for section := range c.Sections {
			known := path.Of(c, section)
			for _, a := range known {
				for _, b := range known {
					if a.Kind != api.Way || b.Kind != api.Way {
						continue
					}
					want := valueText(a) == valueText(b)
					same(t, a.Path, b.Path, want)
					asked++
					if want {
						alike++
					}
				}
			}
		}
	}
	if asked < 5000 || alike < 1000 {
		t.Errorf("asked %d times, %d the same", asked, alike)
	}
}

// Rule 3: Same leaves what is handed in as it was.
func TestSameLeavesAlone(t *testing.T) {
	a, b := grown(api.Path{N: 1, Fields: row(1, 2)}), grown(api.Path{N: 1, Fields: row(1, 3)})
	path.Same(a, b)
	if !slices.Equal(a.Fields[:3], row(1, 2, 7)) || !slices.Equal(b.Fields[:3], row(1, 3, 7)) {
		t.Error(a, b)
	}
}
