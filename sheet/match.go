package sheet

import (
	"slices"

	"colophon/api"
)

// Match tells whether a selector matches the last element of a path.
//
// Its parts are families: parts that stand behind one another, each but the first
// a Child, and so fit elements that stand in one another. The last family must fit
// the path's end. Of the places that any other fits, the innermost one leaves the
// families ahead as much as they can have, so that none is looked for again.
func Match(x api.Selector, path []api.Facts) bool {
	if len(x.Parts) == 0 {
		return false
	}
	ahead, family := lastFamily(x.Parts)
	if !endsWith(path, family) {
		return false
	}
	path = path[:len(path)-len(family)]
	for len(ahead) > 0 {
		ahead, family = lastFamily(ahead)
		for len(path) >= len(family) && !endsWith(path, family) {
			path = path[:len(path)-1]
		}
		if len(path) < len(family) {
			return false
		}
		path = path[:len(path)-len(family)]
	}
	return true
}

// lastFamily cuts the last family off parts.
func lastFamily(parts []api.Part) (ahead, family []api.Part) {
	first := len(parts) - 1
	for first > 0 && parts[first].Child {
		first--
	}
	return parts[:first], parts[first:]
}

// endsWith tells whether a family fits the last elements of a path.
func endsWith(path []api.Facts, family []api.Part) bool {
	if len(path) < len(family) {
		return false
	}
	for i, f := range path[len(path)-len(family):] {
		if !fits(family[i], f) {
			return false
		}
	}
	return true
}

func fits(p api.Part, f api.Facts) bool {
	return (p.Name == "" || p.Name == f.Name) && (p.Id == "" || p.Id == f.Id) && hasAll(f.Classes, p.Classes)
}

// hasAll tells whether each class that is asked for is among those that are there.
// A part may ask for any number; of more than a good one has they are not held
// against each other one by one.
func hasAll(there, asked []string) bool {
	if len(asked) <= api.MaxFew {
		return !slices.ContainsFunc(asked, func(c string) bool { return !slices.Contains(there, c) })
	}
	set := map[string]struct{}{}
	for _, c := range there {
		set[c] = struct{}{}
	}
	return !slices.ContainsFunc(asked, func(c string) bool { _, ok := set[c]; return !ok })
}
