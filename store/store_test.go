package store

import (
	"slices"
	"testing"

	"vellum/api"
)

var (
	x     = api.Cluster{'x'}
	y     = api.Cluster{'y'}
	flush = api.Write{Cluster: -1}
)

func TestPut(t *testing.T) {
	var f File
	f.Flush()
	f.Put(2, x)
	f.Put(0, api.Cluster{})
	f.Put(2, x)
	f.Flush()
	f.Flush()
	f.Put(3, api.Cluster{})
	f.Put(2, y)
	f.Flush()
	if got := f.Clusters(); !slices.Equal(got, []api.Cluster{{}, {}, y, {}}) {
		t.Errorf("clusters: %q", got)
	}
	want := []api.Write{{Cluster: 2, Data: x}, flush, {Cluster: 3}, {Cluster: 2, Data: y}, flush}
	if got := f.Log(); !slices.Equal(got, want) {
		t.Errorf("log: %v", got)
	}
	if f.At(2) != y {
		t.Errorf("cluster 2: %q", f.At(2))
	}
}

func TestNewMemory(t *testing.T) {
	var f File
	for n := range 5 {
		f.Put(n, x)
		f.Flush()
	}
	clusters, log := f.Clusters(), f.Log()
	for i := range clusters[:cap(clusters)] {
		clusters[:cap(clusters)][i] = y
	}
	for i := range log[:cap(log)] {
		log[:cap(log)][i] = api.Write{Cluster: 99}
	}
	f.Put(5, x)
	for n, c := range f.Clusters() {
		if c != x {
			t.Errorf("cluster %d: %q", n, c)
		}
	}
	for i, w := range f.Log() {
		if w != flush && (w.Cluster != i/2 || w.Data != x) {
			t.Errorf("log at %d: %v", i, w)
		}
	}
	if clusters[0] != y || log[0].Cluster != 99 {
		t.Error("a later write has changed what came out before")
	}
}
