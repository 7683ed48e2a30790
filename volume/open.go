package volume

import (
	"errors"
	"strconv"

	"vellum/api"
	"vellum/layout"
	"vellum/store"
)

// What may be wrong with a file.
var (
	errLength  = errors.New("the file is too short or too long")
	errHead    = errors.New("the head is not as it must be")
	errList    = errors.New("the list is not as it must be")
	errNowhere = errors.New("a number tells a cluster that may not be told")
	errTwice   = errors.New("a number tells a cluster that is told as something else")
	errBehind  = errors.New("a number stands behind those that a first table uses")
	errCount   = errors.New("a count is too low or too high")
	errMark    = errors.New("a mark stands where the cluster is not used by this number alone")
)

// Fault is what is wrong with a file, and in which cluster.
type Fault struct {
	Cluster int
	what    error
}

func (f Fault) Error() string { return "cluster " + strconv.Itoa(f.Cluster) + ": " + f.what.Error() }

// Unwrap is what is wrong, without the place.
func (f Fault) Unwrap() error { return f.what }

// Open finds the disk in a file, or the first Fault of it.
func Open(file []api.Cluster) (*Volume, error) {
	if err := checkHead(file); err != nil {
		return nil, err
	}
	v := &Volume{file: store.Of(file, layout.HeadOf(file[layout.HeadAt]).Clusters)}
	// Each of these relies on what those ahead of it have found right.
	for _, check := range []func() error{v.checkList, v.checkNumbers, v.checkCounts, v.checkMarks} {
		if err := check(); err != nil {
			return nil, err
		}
	}
	return v, nil
}

func checkHead(file []api.Cluster) error {
	if len(file) <= layout.ListAt {
		return Fault{layout.HeadAt, errLength}
	}
	h := layout.HeadOf(file[layout.HeadAt])
	if h.Cluster() != file[layout.HeadAt] || h.Clusters <= layout.FirstAt || h.Clusters > api.MaxClusters {
		return Fault{layout.HeadAt, errHead}
	}
	if len(file) > h.Clusters { // and so not above MaxClusters either
		return Fault{layout.HeadAt, errLength}
	}
	return nil
}

func (v *Volume) checkList() error {
	l := v.list()
	if l.Cluster() != v.file.At(layout.ListAt) {
		return Fault{layout.ListAt, errList}
	}
	n := l.Len()
	for i, p := range l[:n] {
		if !isName(p.Name) || l.Find(p.Name) != i {
			return Fault{layout.ListAt, errList}
		}
	}
	for _, p := range l[n:] {
		if p != (layout.Picture{}) {
			return Fault{layout.ListAt, errList}
		}
	}
	return nil
}

// checkNumbers holds each number against all that are told ahead of it, and
// stops ahead of following one that may not be.
func (v *Volume) checkNumbers() error {
	seen := roles{clusters: v.head().Clusters}
	in := layout.HeadAt
	for first := range v.firsts() {
		if err := seen.tell(first, firstTable); err != nil {
			return Fault{in, err}
		}
		in = layout.ListAt
		for s := range v.told(first) {
			if err := seen.tellSpot(s, first); err != nil {
				return Fault{s.table, err}
			}
		}
	}
	return nil
}

type role byte

const (
	firstTable role = iota + 1
	secondTable
	blockData
)

// roles says as what each cluster is told so far, if it is.
type roles struct {
	clusters int // how many the file has
	of       [api.MaxClusters]role
}

func (r *roles) tellSpot(s spot, first int) error {
	if s.table != first {
		return r.tell(s.number.Cluster(), blockData)
	}
	if s.index >= layout.PerFirst {
		return errBehind
	}
	return r.tell(s.number.Cluster(), secondTable)
}

func (r *roles) tell(n int, as role) error {
	if n < layout.FirstAt || n >= r.clusters {
		return errNowhere
	}
	known := r.of[n] != 0
	if known && (r.of[n] != as || as == firstTable) {
		return errTwice
	}
	r.of[n] = as
	return nil
}

func (v *Volume) checkCounts() error {
	uses, clusters := v.uses(), v.head().Clusters
	for n, count := range v.counts() {
		if int(count) < uses[n] || count > mostUses || n >= clusters && count != 0 {
			return Fault{n, errCount}
		}
	}
	return nil
}

// checkMarks needs no look at the uses: they are not above the counts.
func (v *Volume) checkMarks() error {
	counts := v.counts()
	for first := range v.firsts() {
		for s := range v.told(first) {
			if s.number.Marked() && counts[s.number.Cluster()] != 1 {
				return Fault{s.table, errMark}
			}
		}
	}
	return nil
}
