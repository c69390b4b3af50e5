package plan

import (
	"maps"
	"slices"

	"haven/archives"
	"haven/machine"
)

// order takes by turns the least name that is free among those left; where none is, the least of all.
func order(packages map[string]machine.Package, isFree func(name string, left map[string]machine.Package) bool) []string {
	left := maps.Clone(packages)
	var names []string
	for len(left) > 0 {
		sorted := slices.Sorted(maps.Keys(left))
		first := max(0, slices.IndexFunc(sorted, func(name string) bool { return isFree(name, left) }))
		names = append(names, sorted[first])
		delete(left, sorted[first])
	}
	return names
}

func needsNoOther(name string, left map[string]machine.Package) bool {
	for _, need := range left[name].Archive.Needs {
		if _, there := left[need.Name]; there && need.Name != name {
			return false
		}
	}
	return true
}

func noOtherNeeds(name string, left map[string]machine.Package) bool {
	for other, p := range left {
		if other != name && needs(p.Archive, name) {
			return false
		}
	}
	return true
}

func needs(a archives.Archive, name string) bool {
	return slices.ContainsFunc(a.Needs, func(need archives.Need) bool { return need.Name == name })
}
