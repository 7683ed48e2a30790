package volume

import (
	"vellum/api"
	"vellum/layout"
)

// Check tells how the file stands.
func (v *Volume) Check() api.State {
	uses := v.uses()
	state := api.State{Clusters: v.head().Clusters, Unmarked: v.unmarked(uses)}
	for n, count := range v.counts() {
		switch {
		case uses[n] == 0 && count > 0:
			state.Lost++
		case int(count) > uses[n]:
			state.Over++
		}
		if uses[n] > 0 {
			state.Used++
		}
	}
	return state
}

// unmarked is how many numbers lack the mark.
func (v *Volume) unmarked(uses useCounts) int {
	lack := 0
	for first := range v.firsts() {
		for s := range v.told(first) {
			if uses[s.number.Cluster()] == 1 && !s.number.Marked() {
				lack++
			}
		}
	}
	return lack
}

// Repair makes the file exact. The marks come behind the counts: where one
// stands, the count has to be 1 already.
func (v *Volume) Repair() {
	var counts layout.Counts
	for n, uses := range v.uses() {
		counts[n] = byte(uses) // it fits: no count was below it
	}
	v.file.Complete()
	v.putCounts(counts)
	v.file.Flush()
	v.markLone()
	v.file.Flush()
}
