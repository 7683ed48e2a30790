// Package volume keeps a disk of blocks in a file, so that no cut spoils it.
//
// The order of the writes is the same throughout: first the file is made
// longer, then what is going to be shared loses its mark, then what is new is
// written to free clusters and counted, then one single write makes it part of
// the disk or of a picture, then what it took the place of is let go, then what
// is used once from now on gets its mark. Each of these is flushed ahead of the
// next, so that at any cut no count is too low, no number tells what is not
// there yet, and no mark stands where another use is left.
package volume

import (
	"vellum/api"
	"vellum/layout"
	"vellum/store"
)

// Volume is a disk and its file. It keeps nothing beside the file.
type Volume struct {
	file store.File
}

// New makes a disk of noughts. The head is written last: a file that was cut
// off ahead of it is not taken for a disk.
func New() *Volume {
	v := &Volume{}
	var counts layout.Counts
	for n := range layout.FirstAt + 1 {
		counts[n] = 1
	}
	v.putCounts(counts)
	v.file.Put(layout.ListAt, api.Cluster{})
	v.file.Put(layout.FirstAt, api.Cluster{})
	v.file.Flush()
	v.putHead(layout.Head{Clusters: layout.FirstAt + 1, First: layout.FirstAt})
	v.file.Flush()
	return v
}

// File is the file as it is.
func (v *Volume) File() []api.Cluster { return v.file.Clusters() }

// Log is all that was written into the file.
func (v *Volume) Log() []api.Write { return v.file.Log() }

// Read tells what a block of the disk holds.
func (v *Volume) Read(block int) (api.Cluster, api.Errno) {
	return v.read(v.head().First, block)
}

// read tells what a block holds by a first table, the disk's or a picture's.
func (v *Volume) read(first, block int) (api.Cluster, api.Errno) {
	if !isBlock(block) {
		return api.Cluster{}, api.ErrNumber
	}
	p := v.find(first, block)
	if p.block == 0 {
		return api.Cluster{}, api.OK
	}
	return v.file.At(p.block.Cluster()), api.OK
}

func isBlock(block int) bool { return block >= 0 && block < api.Blocks }

// place is where the numbers stand that lead to a block.
type place struct {
	first       int           // the first table's cluster
	inFirst     int           // where in it the second table's number stands
	inSecond    int           // where in the second table the block's number stands
	second      layout.Number // the second table's
	block       layout.Number // the block's
	secondTable layout.Table  // all 0, if there is none
}

// find goes from a first table to a block.
func (v *Volume) find(first, block int) place {
	p := place{
		first:    first,
		inFirst:  block / layout.PerTable,
		inSecond: block % layout.PerTable,
	}
	p.second = v.table(first)[p.inFirst]
	if p.second != 0 {
		p.secondTable = v.table(p.second.Cluster())
	}
	p.block = p.secondTable[p.inSecond]
	return p
}

func (v *Volume) head() layout.Head { return layout.HeadOf(v.file.At(layout.HeadAt)) }

func (v *Volume) putHead(h layout.Head) { v.file.Put(layout.HeadAt, h.Cluster()) }

func (v *Volume) list() layout.List { return layout.ListOf(v.file.At(layout.ListAt)) }

func (v *Volume) putList(l layout.List) { v.file.Put(layout.ListAt, l.Cluster()) }

func (v *Volume) table(n int) layout.Table { return layout.TableOf(v.file.At(n)) }

// putNumber changes one number of a table, in place.
func (v *Volume) putNumber(table, index int, n layout.Number) {
	t := v.table(table)
	t[index] = n
	v.file.Put(table, t.Cluster())
}

func (v *Volume) counts() layout.Counts {
	var counts layout.Counts
	for part := range layout.CountParts {
		counts.SetPart(part, v.file.At(layout.CountsAt+part))
	}
	return counts
}

func (v *Volume) putCounts(counts layout.Counts) {
	for part := range layout.CountParts {
		v.file.Put(layout.CountsAt+part, counts.Part(part))
	}
}
