package store

import (
	"slices"
	"testing"

	"vellum/api"
)

var (
	x     = api.Cluster{'x'}
	y     = api.Cluster{'y'}
	flush = api.Write{Cluster: -1}
)

func TestPut(t *testing.T) {
	var f File
	f.Flush()
	f.Put(2, x)
	f.Put(0, api.Cluster{})
	f.Put(2, x)
	f.Flush()
	f.Flush()
	f.Put(3, api.Cluster{})
	f.Put(2, y)
	f.Flush()
	if got := f.Clusters(); !slices.Equal(got, []api.Cluster{{}, {}, y, {}}) {
		t.Errorf("clusters: %q", got)
	}
	want := []api.Write{{Cluster: 2, Data: x}, flush, {Cluster: 3}, {Cluster: 2, Data: y}, flush}
	if got := f.Log(); !slices.Equal(got, want) {
		t.Errorf("log: %v", got)
	}
	if f.At(2) != y {
		t.Errorf("cluster 2: %q", f.At(2))
	}
}

// TestOf: the log begins with the file, and the file that came in is not kept.
func TestOf(t *testing.T) {
	given := []api.Cluster{x, y, x}
	f := Of(given, 3)
	given[0] = y
	f.Put(1, y)
	f.Flush()
	if len(f.Log()) != 0 || !slices.Equal(f.Clusters(), []api.Cluster{x, y, x}) {
		t.Errorf("clusters: %q, log: %v", f.Clusters(), f.Log())
	}
	f.Put(1, x)
	f.Put(3, y)
	f.Flush()
	if want := []api.Write{{Cluster: 1, Data: x}, {Cluster: 3, Data: y}, flush}; !slices.Equal(f.Log(), want) {
		t.Errorf("log: %v", f.Log())
	}
	if given[1] != y || !slices.Equal(f.Clusters(), []api.Cluster{x, x, x, y}) {
		t.Errorf("clusters: %q, given: %q", f.Clusters(), given)
	}
}

// TestOfShort: what is missing is noughts, whatever lies in the spare room, and
// the first write is led by one that makes the file as long as it has to be.
func TestOfShort(t *testing.T) {
	room := []api.Cluster{x, y, y, y}
	f := Of(room[:1], 3)
	f.Put(2, api.Cluster{})
	f.Flush()
	if len(f.Log()) != 0 || !slices.Equal(f.Clusters(), []api.Cluster{x, {}, {}}) {
		t.Errorf("clusters: %q, log: %v", f.Clusters(), f.Log())
	}
	f.Put(0, y)
	f.Flush()
	f.Put(0, x)
	f.Flush()
	want := []api.Write{{Cluster: 2}, {Cluster: 0, Data: y}, flush, {Cluster: 0, Data: x}, flush}
	if !slices.Equal(f.Log(), want) {
		t.Errorf("log: %v", f.Log())
	}
	if !slices.Equal(room, []api.Cluster{x, y, y, y}) {
		t.Errorf("given: %q", room)
	}
	f = Of(room[:1], 3)
	f.Complete()
	f.Complete()
	f.Flush()
	if !slices.Equal(f.Log(), []api.Write{{Cluster: 2}, flush}) {
		t.Errorf("log: %v", f.Log())
	}
}

func TestNewMemory(t *testing.T) {
	var f File
	for n := range 5 {
		f.Put(n, x)
		f.Flush()
	}
	clusters, log := f.Clusters(), f.Log()
	for i := range clusters[:cap(clusters)] {
		clusters[:cap(clusters)][i] = y
	}
	for i := range log[:cap(log)] {
		log[:cap(log)][i] = api.Write{Cluster: 99}
	}
	f.Put(5, x)
	for n, c := range f.Clusters() {
		if c != x {
			t.Errorf("cluster %d: %q", n, c)
		}
	}
	for i, w := range f.Log() {
		if w != flush && (w.Cluster != i/2 || w.Data != x) {
			t.Errorf("log at %d: %v", i, w)
		}
	}
	if clusters[0] != y || log[0].Cluster != 99 {
		t.Error("a later write has changed what came out before")
	}
}
