package timers

import (
	"cmp"
	"slices"
)

// alarm is due at a tick; set grows from one call of Set to the next, and settles which of one tick was set earlier.
type alarm struct {
	name, at, set int
}

func (a alarm) compare(b alarm) int {
	return cmp.Or(cmp.Compare(a.at, b.at), cmp.Compare(a.set, b.set))
}

// alarms are a heap (container/heap) with the alarm in front that is due before all others.
type alarms []alarm

// Len returns the number of alarms.
func (l alarms) Len() int {
	return len(l)
}

// Less reports whether the alarm at i is due before that at j.
func (l alarms) Less(i, j int) bool {
	return l[i].compare(l[j]) < 0
}

// Swap swaps two alarms.
func (l alarms) Swap(i, j int) {
	l[i], l[j] = l[j], l[i]
}

// Push appends an alarm.
func (l *alarms) Push(x any) {
	*l = append(*l, x.(alarm))
}

// Pop removes the last alarm.
func (l *alarms) Pop() any {
	last := len(*l) - 1
	removed := (*l)[last]
	*l = (*l)[:last]
	return removed
}

// find returns where the alarm with this name is, and whether there is one.
func (l alarms) find(name int) (int, bool) {
	place := slices.IndexFunc(l, func(a alarm) bool { return a.name == name })
	return place, place >= 0
}
