// Package layout tells what the bytes of the file's clusters mean: see DOC.md, 'The file'.
// All its types are arrays and small structs, values that are copied by assigning.
package layout

import (
	"bytes"

	"vellum/api"
)

// Where the clusters stand whose place never changes.
const (
	HeadAt   = 0
	CountsAt = 1
	ListAt   = 5
	FirstAt  = 6 // the first table of a new disk; from here on places are free to be taken
)

const (
	// CountParts is how many clusters the counts fill.
	CountParts = api.MaxClusters / api.Size
	// PerTable is how many numbers a table has.
	PerTable = api.Size / 2
	// PerFirst is how many of a first table's numbers are used.
	PerFirst = api.Blocks / PerTable
)

const magic = "VELM"

// How an entry of the list is laid out.
const (
	entrySize = api.Size / api.MaxPictures
	nameAt    = 2
	nameEnd   = nameAt + api.MaxName
)

// Number tells a cluster, with or without the mark; 0 tells none.
type Number uint16

// Own is the number of a cluster that is used once.
func Own(cluster int) Number { return Number(cluster) | api.Mark }

// Cluster is the cluster that the number tells.
func (n Number) Cluster() int { return int(n &^ api.Mark) }

// Shared is the number without the mark.
func (n Number) Shared() Number { return n &^ api.Mark }

// Marked says whether what the number tells is used by it alone.
func (n Number) Marked() bool { return n&api.Mark != 0 }

// Table is a first or a second table.
type Table [PerTable]Number

// TableOf reads a table.
func TableOf(c api.Cluster) Table {
	var t Table
	for i := range t {
		t[i] = numberAt(c, 2*i)
	}
	return t
}

// Cluster is the table as it stands in the file.
func (t Table) Cluster() api.Cluster {
	var c api.Cluster
	for i, n := range t {
		putNumber(&c, 2*i, n)
	}
	return c
}

// Head is what cluster 0 says.
type Head struct {
	Clusters int // how many the file has
	First    int // the disk's first table
}

// HeadOf reads the head.
func HeadOf(c api.Cluster) Head {
	return Head{
		Clusters: int(numberAt(c, len(magic))),
		First:    int(numberAt(c, len(magic)+2)),
	}
}

// Cluster is the head as it stands in the file.
func (h Head) Cluster() api.Cluster {
	var c api.Cluster
	copy(c[:], magic)
	putNumber(&c, len(magic), Number(h.Clusters))
	putNumber(&c, len(magic)+2, Number(h.First))
	return c
}

// Counts says of each cluster, by its number, how often it is used.
type Counts [api.MaxClusters]byte

// SetPart takes over one of the clusters that hold the counts.
func (t *Counts) SetPart(part int, c api.Cluster) {
	copy(t[part*api.Size:], c[:])
}

// Part is one of the clusters that hold the counts.
func (t Counts) Part(part int) api.Cluster {
	return api.Cluster(t[part*api.Size : (part+1)*api.Size])
}

// Picture is an entry of the list; one without a first table is none.
type Picture struct {
	Name  string
	First int // the picture's first table
}

// List is the pictures in the order in which they were taken; what is no
// picture stands behind them.
type List [api.MaxPictures]Picture

// ListOf reads the list.
func ListOf(c api.Cluster) List {
	var l List
	for i := range l {
		entry := c[i*entrySize : (i+1)*entrySize]
		name, _, _ := bytes.Cut(entry[nameAt:nameEnd], []byte{0})
		l[i] = Picture{Name: string(name), First: int(numberAt(c, i*entrySize))}
	}
	return l
}

// Cluster is the list as it stands in the file.
func (l List) Cluster() api.Cluster {
	var c api.Cluster
	for i, p := range l {
		entry := c[i*entrySize : (i+1)*entrySize]
		copy(entry[nameAt:nameEnd], p.Name)
		putNumber(&c, i*entrySize, Number(p.First))
	}
	return c
}

// Len is how many pictures there are.
func (l List) Len() int {
	n := 0
	for n < len(l) && l[n].First != 0 {
		n++
	}
	return n
}

// Find is the place of the picture of that name, or -1.
func (l List) Find(name string) int {
	for i, p := range l[:l.Len()] {
		if p.Name == name {
			return i
		}
	}
	return -1
}

// With is the list with one picture more, for which there has to be room.
func (l List) With(p Picture) List {
	l[l.Len()] = p
	return l
}

// Without is the list in which those behind the i-th have moved up.
func (l List) Without(i int) List {
	copy(l[i:], l[i+1:])
	l[len(l)-1] = Picture{}
	return l
}

func numberAt(c api.Cluster, at int) Number {
	return Number(c[at])<<8 | Number(c[at+1])
}

func putNumber(c *api.Cluster, at int, n Number) {
	c[at], c[at+1] = byte(n>>8), byte(n)
}
