package volume

import (
	"iter"

	"vellum/api"
	"vellum/layout"
)

// lowestFree finds free clusters, fewer than wanted if there are no more. What
// the file has not got yet has no count either, and so is free as well.
func (v *Volume) lowestFree(want int) []int {
	var free []int
	for n, count := range v.counts() {
		if len(free) == want {
			break
		}
		if count == 0 {
			free = append(free, n)
		}
	}
	return free
}

// lengthen makes the head say that the file has these clusters, in rising order.
// It has to be there ahead of them: nothing may be written or counted behind the
// file's end.
func (v *Volume) lengthen(fresh []int) {
	h := v.head()
	if last := fresh[len(fresh)-1]; last >= h.Clusters {
		h.Clusters = last + 1
		v.putHead(h)
		v.file.Flush()
	}
}

// claim counts free clusters, in rising order, as used once.
func (v *Volume) claim(fresh []int) {
	v.lengthen(fresh)
	counts := v.counts()
	for _, n := range fresh {
		counts[n] = 1
	}
	v.putCounts(counts)
}

// letGo takes a use from each of the clusters, as often as they come, and marks
// the number that is then the last one to tell it.
func (v *Volume) letGo(used iter.Seq[int]) {
	counts := v.counts()
	for n := range used {
		counts[n]--
	}
	v.putCounts(counts)
	v.file.Flush()
	v.markLone()
	v.file.Flush()
}

// markLone marks the numbers that tell clusters whose counts are 1: no other
// number can tell the same.
func (v *Volume) markLone() {
	counts := v.counts()
	lone := func(n layout.Number) layout.Number {
		if c := n.Cluster(); counts[c] == 1 {
			return layout.Own(c)
		}
		return n
	}
	for first := range v.firsts() {
		v.renumber(first, lone)
	}
}

// renumber changes the numbers by which a first table tells what it uses, each
// table in one write.
func (v *Volume) renumber(first int, change func(layout.Number) layout.Number) {
	for table := range v.tables(first) {
		changed := v.table(table)
		for s := range v.numbers(table) {
			changed[s.index] = change(s.number)
		}
		v.file.Put(table, changed.Cluster())
	}
}

// useCounts is how often each cluster is used. In a file that may not be sound
// this can be more than a count can say.
type useCounts [api.MaxClusters]int

// uses counts how often each cluster is used.
func (v *Volume) uses() useCounts {
	var uses useCounts
	for n := range layout.FirstAt {
		uses[n] = 1 // the head, the counts and the list
	}
	for first := range v.firsts() {
		for n := range v.held(first) {
			uses[n]++
		}
	}
	return uses
}

// spot is a place in a table where a number stands that is not 0.
type spot struct {
	table, index int
	number       layout.Number
}

// firsts goes through the first tables that are used: the disk's, then the pictures'.
func (v *Volume) firsts() iter.Seq[int] {
	return func(yield func(int) bool) {
		if !yield(v.head().First) {
			return
		}
		list := v.list()
		for _, p := range list[:list.Len()] {
			if !yield(p.First) {
				return
			}
		}
	}
}

// held goes through what a first table keeps from being free: itself, and what it uses.
func (v *Volume) held(first int) iter.Seq[int] {
	return func(yield func(int) bool) {
		if !yield(first) {
			return
		}
		for s := range v.told(first) {
			if !yield(s.number.Cluster()) {
				return
			}
		}
	}
}

// told goes through what a first table uses: each second table's number, and
// behind it those of its blocks.
func (v *Volume) told(first int) iter.Seq[spot] {
	return func(yield func(spot) bool) {
		for s := range v.numbers(first) {
			if !yield(s) {
				return
			}
			for b := range v.numbers(s.number.Cluster()) {
				if !yield(b) {
					return
				}
			}
		}
	}
}

// tables goes through a first table and its second tables.
func (v *Volume) tables(first int) iter.Seq[int] {
	return func(yield func(int) bool) {
		if !yield(first) {
			return
		}
		for s := range v.numbers(first) {
			if !yield(s.number.Cluster()) {
				return
			}
		}
	}
}

// numbers goes through the numbers of one table.
func (v *Volume) numbers(table int) iter.Seq[spot] {
	return func(yield func(spot) bool) {
		for i, n := range v.table(table) {
			if n != 0 && !yield(spot{table, i, n}) {
				return
			}
		}
	}
}

// clusters goes through those that the numbers tell, if they tell any.
func clusters(numbers ...layout.Number) iter.Seq[int] {
	return func(yield func(int) bool) {
		for _, n := range numbers {
			if n != 0 && !yield(n.Cluster()) {
				return
			}
		}
	}
}
