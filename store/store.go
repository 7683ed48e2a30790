// Package store keeps the clusters of a file, and the log of all that was written into it.
package store

import (
	"slices"

	"vellum/api"
)

const flushed = -1 // what the log has as a flush's cluster

// File is one, as it stands when all of its log is done.
type File struct {
	clusters []api.Cluster
	log      []api.Write
	loose    bool // something stands behind the last flush
	short    bool // the end is missing where the file came from, and the log has not made it yet
}

// Of is a file that is there already and has a log from now on. It has to have
// that length; noughts stand for what is missing at its end.
func Of(clusters []api.Cluster, length int) File {
	f := File{clusters: make([]api.Cluster, length), short: len(clusters) < length}
	copy(f.clusters, clusters)
	return f
}

// At is what a cluster holds.
func (f *File) At(n int) api.Cluster { return f.clusters[n] }

// Put writes a cluster. One that holds the data already is left alone: a write
// that changes nothing would only be one more that a cut may miss. Behind the
// file's end noughts are written too, since the file has to become longer.
func (f *File) Put(n int, data api.Cluster) {
	if n < len(f.clusters) && f.clusters[n] == data {
		return
	}
	f.Complete()
	for len(f.clusters) <= n {
		f.clusters = append(f.clusters, api.Cluster{})
	}
	f.clusters[n] = data
	f.note(n)
}

// Complete makes the log lead to a file as long as this one, ahead of the first
// write at the latest. A file that is only looked at is left as it came.
func (f *File) Complete() {
	if f.short {
		f.short = false
		f.note(len(f.clusters) - 1)
	}
}

// note puts a cluster, as it is now, into the log.
func (f *File) note(n int) {
	f.log = append(f.log, api.Write{Cluster: n, Data: f.clusters[n]})
	f.loose = true
}

// Flush makes sure that nothing written so far can be missing once something later is there.
func (f *File) Flush() {
	if !f.loose {
		return
	}
	f.log = append(f.log, api.Write{Cluster: flushed})
	f.loose = false
}

// Clusters is the whole file, in new memory.
func (f *File) Clusters() []api.Cluster { return slices.Clone(f.clusters) }

// Log is all that was written, in new memory.
func (f *File) Log() []api.Write { return slices.Clone(f.log) }
