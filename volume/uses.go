package volume

import (
	"iter"
	"slices"

	"vellum/api"
	"vellum/layout"
)

// lowestFree finds free clusters, fewer than wanted if there are no more. What
// the file has not got yet has no count either, and so is free as well.
func (v *Volume) lowestFree(want int) []int {
	var free []int
	for n, count := range v.counts() {
		if len(free) == want {
			break
		}
		if count == 0 {
			free = append(free, n)
		}
	}
	return free
}

// claim counts free clusters, in rising order, as used once. The head has to be
// there ahead of them: nothing may be written or counted behind the file's end.
func (v *Volume) claim(fresh []int) {
	h := v.head()
	if last := fresh[len(fresh)-1]; last >= h.Clusters {
		h.Clusters = last + 1
		v.putHead(h)
		v.file.Flush()
	}
	counts := v.counts()
	for _, n := range fresh {
		counts[n] = 1
	}
	v.putCounts(counts)
}

// letGo takes one use from each cluster that is told, and marks the number that
// is then the last one to tell it.
func (v *Volume) letGo(numbers ...layout.Number) {
	counts := v.counts()
	var lone []int
	for _, n := range numbers {
		if n == 0 {
			continue
		}
		counts[n.Cluster()]--
		if counts[n.Cluster()] == 1 {
			lone = append(lone, n.Cluster())
		}
	}
	v.putCounts(counts)
	v.file.Flush()
	v.markLone(lone)
	v.file.Flush()
}

// markLone marks the numbers that tell these clusters, whose counts are 1.
func (v *Volume) markLone(lone []int) {
	if len(lone) == 0 {
		return
	}
	for first := range v.firsts() {
		for s := range v.told(first) {
			if n := s.number.Cluster(); slices.Contains(lone, n) {
				v.putNumber(s.table, s.index, layout.Own(n))
			}
		}
	}
}

// spot is a place in a table where a number stands that is not 0.
type spot struct {
	table, index int
	number       layout.Number
}

// firsts goes through the first tables that are used: the disk's, then the pictures'.
func (v *Volume) firsts() iter.Seq[int] {
	return func(yield func(int) bool) {
		if !yield(v.head().First) {
			return
		}
		list := v.file.At(layout.ListAt)
		for i := range api.MaxPictures {
			first := layout.PictureFirst(list, i)
			if first == 0 || !yield(first) {
				return
			}
		}
	}
}

// told goes through what a first table uses: each second table's number, and
// behind it those of its blocks.
func (v *Volume) told(first int) iter.Seq[spot] {
	return func(yield func(spot) bool) {
		for s := range v.numbers(first) {
			if !yield(s) {
				return
			}
			for b := range v.numbers(s.number.Cluster()) {
				if !yield(b) {
					return
				}
			}
		}
	}
}

// numbers goes through the numbers of one table.
func (v *Volume) numbers(table int) iter.Seq[spot] {
	return func(yield func(spot) bool) {
		for i, n := range v.table(table) {
			if n != 0 && !yield(spot{table, i, n}) {
				return
			}
		}
	}
}
