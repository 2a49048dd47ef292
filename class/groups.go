package class

import (
	"padlock/api"
	"padlock/pts"
)

// groups has, of each site that a set can have, all sites that are of one class with it, as a set.
type groups [64]uint64

// joinedBy answers which of so many sites, one at least, are of one class.
func joinedBy(sites int, s api.Sets) groups {
	var g groups
	for site := range g {
		g[site] = 1 << site
	}
	// From 64 sites on nothing is left of the 1, and all bits are known.
	known := uint64(1)<<sites - 1
	for _, rows := range [][][]uint64{s.Slots, {s.Globals}, s.Fields} {
		for _, row := range rows {
			for _, set := range row {
				g.join(set & known)
			}
		}
	}
	return g
}

// join lets all sites of a set, and what they are one with, be of one class.
func (g *groups) join(set uint64) {
	var all uint64
	for site := range pts.Each(set) {
		all |= g[site]
	}
	for site := range pts.Each(all) {
		g[site] = all
	}
}
