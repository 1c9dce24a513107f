package rule

import (
	"math/bits"
	"slices"

	"unbent/api"
	"unbent/frac"
)

// membersOf is the places of a group's members: of the bits that are 1 in its number.
func membersOf(group int) []int {
	var out []int
	for rest := uint(group); rest != 0; rest &= rest - 1 {
		out = append(out, bits.TrailingZeros(rest))
	}
	return out
}

// firstJoint is the first lie of a group that is better for each member.
func (l law) firstJoint(members []int) (api.Joint, bool) {
	for place, profile := range l.all {
		for to, said := range l.bent(place, members) {
			if !l.betterForEach(members, place, to) {
				continue
			}
			joint := api.Joint{Group: members, Profile: slices.Clone(profile)}
			for _, agent := range members {
				joint.Told = append(joint.Told, said[agent])
			}
			return joint, true
		}
	}
	return api.Joint{}, false
}

// betterForEach reports whether each member, of its kind at one profile, has more at another.
func (l law) betterForEach(members []int, place, to int) bool {
	for _, agent := range members {
		kind := l.profiles[place][agent]
		if frac.Cmp(l.has(agent, kind, to), l.has(agent, kind, place)) <= 0 {
			return false
		}
	}
	return true
}
