// Package age puts transactions in order: the elder ones ahead. No layer has it to itself.
package age

import (
	"maps"
	"slices"

	"dockmaster/api"
)

// Keys is the transactions under which a map has something, the elder ones ahead.
func Keys[V any](m map[api.Tid]V) []api.Tid {
	return slices.SortedFunc(maps.Keys(m), compare)
}

func compare(t, u api.Tid) int {
	switch {
	case t.Elder(u):
		return -1
	case u.Elder(t):
		return 1
	}
	return 0
}
