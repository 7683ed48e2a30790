package vellum_test

import (
	"math"
	"slices"
	"strconv"
	"testing"

	"vellum/api"
	"vellum/oracle"
	"vellum/vellum"
)

var (
	flush      = api.Write{Cluster: -1}
	noBlocks   = []int{-1, 64, 65, 128, -64, 1 << 16, 1 << 32, 1<<32 + 5, -1 << 32, math.MaxInt, math.MinInt}
	edgeBlocks = []int{0, 31, 32, 63}
)

func text(s string) api.Cluster {
	var c api.Cluster
	copy(c[:], s)
	return c
}

func write(t *testing.T, d *vellum.Disk, block int, data api.Cluster) {
	t.Helper()
	if e := d.Write(block, data); e != api.OK {
		t.Fatalf("P3: Write(%d) = %d", block, e)
	}
}

func take(t *testing.T, d *vellum.Disk, name string) {
	t.Helper()
	if e := d.Take(name); e != api.OK {
		t.Fatalf("P4: Take(%s) = %d", name, e)
	}
}

// holds: a disk without pictures.
func holds(t *testing.T, d *vellum.Disk, want [api.Blocks]api.Cluster) {
	t.Helper()
	tells(t, d, oracle.Told{Disk: want})
}

// tells: P3 to P6 at once: what the disk and its pictures hold, by the calls, by the file and by the log.
func tells(t *testing.T, d *vellum.Disk, want oracle.Told) {
	t.Helper()
	for n := range api.Blocks {
		if c, e := d.Read(n); c != want.Disk[n] || e != api.OK {
			t.Errorf("P3: Read(%d) = %q, %d", n, c, e)
		}
	}
	names := slices.DeleteFunc(slices.Clone(want.Names[:]), func(s string) bool { return s == "" })
	if l := d.List(); !slices.Equal(l, names) {
		t.Errorf("P4: List() = %q, want %q", l, names)
	}
	for i, name := range names {
		for n := range api.Blocks {
			if c, e := d.ReadOf(name, n); c != want.Pictures[i][n] || e != api.OK {
				t.Errorf("P4: ReadOf(%s, %d) = %q, %d", name, n, c, e)
			}
		}
	}
	file, log := d.File(), d.Log()
	if err := oracle.Exact(file); err != nil {
		t.Errorf("P5: the file is not exact: %v", err)
	}
	if told, _ := oracle.Sound(file); told != want {
		t.Errorf("P5: the file tells another disk")
	}
	for i, w := range log {
		if w.Cluster < -1 || w.Cluster >= api.MaxClusters || w.Cluster == -1 && w != flush {
			t.Errorf("P6: the log has at %d %v", i, w)
		}
	}
	if !slices.Equal(oracle.Replay(nil, log), file) {
		t.Errorf("P6: the log leads to another file")
	}
	if len(log) == 0 || log[len(log)-1] != flush {
		t.Errorf("P6: the log does not end with a flush")
	}
}

// TestNew: example 1.
func TestNew(t *testing.T) {
	d := vellum.New()
	holds(t, d, [api.Blocks]api.Cluster{})
	want := []api.Cluster{text("VELM\x00\x07\x00\x06"), text("\x01\x01\x01\x01\x01\x01\x01"), {}, {}, {}, {}, {}}
	if f := d.File(); !slices.Equal(f, want) {
		t.Errorf("P5: a new disk's file is %q", f)
	}
}

// TestFirstWrite: example 2.
func TestFirstWrite(t *testing.T) {
	d := vellum.New()
	write(t, d, 0, text("x"))
	f := d.File()
	if len(f) != 9 || f[0] != text("VELM\x00\x09\x00\x06") || f[1] != text("\x01\x01\x01\x01\x01\x01\x01\x01\x01") {
		t.Fatalf("P5: behind one write the file is %q", f)
	}
	table, block := int(f[6][1]), 15-int(f[6][1])
	if table != 7 && table != 8 || f[6] != text("\x80"+string(rune(table))) ||
		f[table] != text("\x80"+string(rune(block))) || f[block] != text("x") {
		t.Errorf("P5: behind one write the file is %q", f)
	}
}

func TestWriteEdges(t *testing.T) {
	d := vellum.New()
	var want [api.Blocks]api.Cluster
	for i, step := range []struct {
		block    int
		data     api.Cluster
		clusters int // P5: as many as were ever used
	}{
		{31, text("a"), 9},
		{0, text("b"), 10},
		{0, text("b"), 10},
		{0, text("c"), 10},
		{63, api.Cluster{}, 12},
		{63, text("d"), 12},
		{32, text("e"), 13},
		{31, api.Cluster{}, 13},
		{31, text("\x00\xff"), 13},
		{1, api.Cluster{}, 14},
	} {
		write(t, d, step.block, step.data)
		want[step.block] = step.data
		holds(t, d, want)
		if n := len(d.File()); n != step.clusters {
			t.Errorf("P5: step %d: the file has %d clusters, not %d", i, n, step.clusters)
		}
	}
}

func TestWholeDisk(t *testing.T) {
	d := vellum.New()
	var want [api.Blocks]api.Cluster
	for round := range 3 {
		for n := range api.Blocks {
			block := (n*37 + round) % api.Blocks
			for i := range want[block] {
				want[block][i] = byte(block + i*(round+1))
			}
			write(t, d, block, want[block])
		}
		holds(t, d, want)
		if n := len(d.File()); n != 7+2+api.Blocks {
			t.Errorf("P5: the file of a full disk has %d clusters", n)
		}
	}
}

func TestNoBlock(t *testing.T) {
	d := vellum.New()
	var want [api.Blocks]api.Cluster
	for _, n := range edgeBlocks {
		want[n] = text(strconv.Itoa(n))
		write(t, d, n, want[n])
	}
	file, log := d.File(), d.Log()
	for _, n := range noBlocks {
		if c, e := d.Read(n); c != (api.Cluster{}) || e != api.ErrNumber {
			t.Errorf("P3: Read(%d) = %q, %d", n, c, e)
		}
		if e := d.Write(n, text("x")); e != api.ErrNumber {
			t.Errorf("P3: Write(%d) = %d", n, e)
		}
	}
	if !slices.Equal(d.File(), file) || !slices.Equal(d.Log(), log) {
		t.Errorf("P1: a refused call has changed the file or the log")
	}
	holds(t, d, want)
}

// TestNoDisk: P1 of a disk that nobody made.
func TestNoDisk(t *testing.T) {
	for _, d := range []*vellum.Disk{nil, {}} {
		for _, n := range append(noBlocks, edgeBlocks...) {
			if c, e := d.Read(n); c != (api.Cluster{}) || e == api.OK {
				t.Errorf("P1: Read(%d) = %q, %d", n, c, e)
			}
			if e := d.Write(n, text("x")); e == api.OK {
				t.Errorf("P1: Write(%d) = %d", n, e)
			}
		}
		for _, e := range []api.Errno{d.Take("a"), d.Return("a"), d.Drop("a")} {
			if e == api.OK {
				t.Errorf("P1: a picture where there is no disk")
			}
		}
		if c, e := d.ReadOf("a", 0); c != (api.Cluster{}) || e == api.OK {
			t.Errorf("P1: ReadOf(a, 0) = %q, %d", c, e)
		}
		if d.File() != nil || d.Log() != nil || d.List() != nil {
			t.Errorf("P1: a file where there is none")
		}
		d.Repair()
		if s := d.Check(); s != (api.State{}) {
			t.Errorf("P1: Check() = %+v where there is no file", s)
		}
	}
}

// spoil: writes into a list that came out, and into its spare room.
func spoil[T any](list []T, with T) {
	list = list[:cap(list)]
	for i := range list {
		list[i] = with
	}
}

func TestNewMemory(t *testing.T) {
	d := vellum.New()
	var want [api.Blocks]api.Cluster
	for n := range api.Blocks {
		early, earlyLog := d.File(), d.Log()
		other, otherLog := slices.Clone(early), slices.Clone(earlyLog)
		spoil(d.File(), text("spoilt"))
		spoil(d.Log(), api.Write{Cluster: 99, Data: text("spoilt")})
		want[n] = text(strconv.Itoa(n))
		write(t, d, n, want[n])
		holds(t, d, want)
		if !slices.Equal(early, other) || !slices.Equal(earlyLog, otherLog) {
			t.Fatalf("P2: what came out before has changed")
		}
	}
}

func TestReadsWriteNothing(t *testing.T) {
	d := vellum.New()
	write(t, d, 5, text("five"))
	take(t, d, "a")
	log := d.Log()
	for n := range api.Blocks {
		d.Read(n)
		d.ReadOf("a", n)
	}
	d.List()
	d.File()
	d.Check()
	d.Repair() // of what is exact
	if !slices.Equal(d.Log(), log) {
		t.Errorf("P6: the log has grown though nothing was written")
	}
}

func TestTwoDisks(t *testing.T) {
	a, b, alone := vellum.New(), vellum.New(), vellum.New()
	var wantA, wantB [api.Blocks]api.Cluster
	for n := range api.Blocks {
		wantA[n], wantB[63-n] = text("a"+strconv.Itoa(n)), text("b"+strconv.Itoa(n))
		write(t, a, n, wantA[n])
		write(t, b, 63-n, wantB[63-n])
	}
	for n := range api.Blocks {
		write(t, alone, n, wantA[n])
	}
	holds(t, a, wantA)
	holds(t, b, wantB)
	if !slices.Equal(a.File(), alone.File()) || !slices.Equal(a.Log(), alone.Log()) {
		t.Errorf("P2: what one disk tells depends on another")
	}
}

// TestLogGrows: P6: what was in the log stays there, and each call ends flushed.
func TestLogGrows(t *testing.T) {
	d := vellum.New()
	for n := range 100 {
		log := d.Log()
		write(t, d, n*29%api.Blocks, text(strconv.Itoa(n)))
		next := d.Log()
		if len(next) <= len(log) || !slices.Equal(next[:len(log)], log) || next[len(next)-1] != flush {
			t.Fatalf("P6: behind %d writes the log has gone on wrongly", n+1)
		}
	}
}
