package volume

import (
	"math/rand"
	"slices"
	"testing"

	"vellum/api"
	"vellum/layout"
	"vellum/oracle"
)

func text(s string) api.Cluster {
	var c api.Cluster
	copy(c[:], s)
	return c
}

// opened: a disk in a file that the test has made.
func opened(t *testing.T, file []api.Cluster) *Volume {
	t.Helper()
	v, err := Open(file)
	if err != nil {
		t.Fatalf("P8: Open: %v", err)
	}
	return v
}

// pictured: the file with one picture more of its disk, made by hand: the
// picture's first table stands behind the file's end.
func pictured(file []api.Cluster, entry int, name string) []api.Cluster {
	f := slices.Clone(file)
	n := len(f)
	first := layout.TableOf(f[6])
	for i, second := range first {
		if second == 0 {
			continue
		}
		table := layout.TableOf(f[second.Cluster()])
		for k, block := range table {
			if block != 0 {
				table[k] = layout.Number(block.Cluster())
				f[1][block.Cluster()]++
			}
		}
		f[second.Cluster()] = table.Cluster()
		f[1][second.Cluster()]++
		first[i] = layout.Number(second.Cluster())
	}
	f[6] = first.Cluster()
	f = append(f, f[6])
	f[0][5]++
	f[1][n] = 1
	f[5][16*entry+1] = byte(n)
	copy(f[5][16*entry+2:], name)
	return f
}

// filled: the file at its full length, with only so many clusters free.
func filled(file []api.Cluster, free int) []api.Cluster {
	f := slices.Clone(file)
	for n := len(f); n < api.MaxClusters-free; n++ {
		f[1+n/api.Size][n%api.Size] = 1
	}
	for len(f) < api.MaxClusters {
		f = append(f, api.Cluster{})
	}
	f[0][4], f[0][5] = 1, 0
	return f
}

// begun: the file of a disk on which these blocks have been written.
func begun(t *testing.T, blocks ...int) []api.Cluster {
	t.Helper()
	v := New()
	for _, n := range blocks {
		if e := v.Write(n, text("first")); e != api.OK {
			t.Fatalf("Write(%d) = %d", n, e)
		}
	}
	return v.File()
}

func sound(t *testing.T, file []api.Cluster) oracle.Told {
	t.Helper()
	told, err := oracle.Sound(file)
	if err != nil {
		t.Fatalf("not sound: %v", err)
	}
	return told
}

// made: P5 to P7: makes a call that is not refused; at every cut the file is
// sound and tells what it did before or does behind. Answers how much longer
// the file is.
func made(t *testing.T, v *Volume, what string, call func() api.Errno, behind oracle.Told) int {
	t.Helper()
	file, from := v.File(), len(v.Log())
	before := sound(t, file)
	if e := call(); e != api.OK {
		t.Fatalf("P3, P4: %s = %d", what, e)
	}
	log := v.Log()[from:]
	for cut := range oracle.Cuts(file, log) {
		if told := sound(t, cut); told != before && told != behind {
			t.Fatalf("P7: a cut in %s leaves a disk that never was", what)
		}
	}
	if !slices.Equal(oracle.Replay(file, log), v.File()) {
		t.Errorf("P6: %s: the log leads to another file", what)
	}
	if len(log) > 0 && log[len(log)-1].Cluster != -1 {
		t.Errorf("P6: %s does not end with a flush", what)
	}
	if sound(t, v.File()) != behind {
		t.Errorf("P3, P4: %s leaves another disk", what)
	}
	return len(v.File()) - len(file)
}

// refused: P1: a call that is refused changes nothing.
func refused(t *testing.T, v *Volume, what string, call func() api.Errno, want api.Errno) {
	t.Helper()
	file, log := v.File(), v.Log()
	if e := call(); e != want {
		t.Errorf("P3, P4: %s = %d, want %d", what, e, want)
	}
	if !slices.Equal(v.File(), file) || !slices.Equal(v.Log(), log) {
		t.Errorf("P1: %s: a refused call has changed something", what)
	}
}

func written(t *testing.T, v *Volume, block int, data api.Cluster) int {
	t.Helper()
	behind := sound(t, v.File())
	behind.Disk[block] = data
	return made(t, v, "Write", func() api.Errno { return v.Write(block, data) }, behind)
}

func exact(t *testing.T, v *Volume) {
	t.Helper()
	if err := oracle.Exact(v.File()); err != nil {
		t.Errorf("P5: not exact: %v", err)
	}
}

// TestWriteShared: with a picture there, a block is written beside what they share (example 3).
func TestWriteShared(t *testing.T) {
	v := opened(t, pictured(begun(t, 0, 1, 32), 0, "a"))
	exact(t, v)
	for i, step := range []struct {
		block, more int
	}{{0, 2}, {0, 0}, {1, 1}, {1, 0}, {31, 1}, {63, 2}, {32, 1}, {32, 0}, {63, 0}} {
		if more := written(t, v, step.block, text(string(rune('a'+i)))); more != step.more {
			t.Errorf("step %d: Write(%d) has made the file %d longer", i, step.block, more)
		}
		exact(t, v)
	}
}

func TestWriteSharedByMany(t *testing.T) {
	f := begun(t, 0, 31, 40)
	for i, name := range []string{"a", "bc", "d", "efghijklmnop"} {
		f = pictured(f, i, name)
	}
	v := opened(t, f)
	exact(t, v)
	r := rand.New(rand.NewSource(3))
	for range 200 {
		var data api.Cluster
		r.Read(data[:])
		written(t, v, r.Intn(api.Blocks), data)
		exact(t, v)
	}
}

// TestWriteFull: none, one or two clusters are needed, by the marks.
func TestWriteFull(t *testing.T) {
	plain := begun(t, 0, 1)
	shared := pictured(plain, 0, "a")
	half := opened(t, shared)
	written(t, half, 0, text("own")) // block 1 is still shared, its second table not
	for name, c := range map[string]struct {
		file         []api.Cluster
		block, needs int
	}{
		"in place":          {plain, 0, 0},
		"no block":          {plain, 31, 1},
		"no table":          {plain, 32, 2},
		"all shared":        {shared, 0, 2},
		"shared, no block":  {shared, 31, 2},
		"own beside shared": {half.File(), 0, 0},
		"block shared":      {half.File(), 1, 1},
	} {
		for free := range 4 {
			v := opened(t, filled(c.file, free))
			if free >= c.needs {
				written(t, v, c.block, text("new"))
				continue
			}
			for _, data := range []api.Cluster{text("new"), {}} {
				refused(t, v, name, func() api.Errno { return v.Write(c.block, data) }, api.ErrFull)
			}
		}
	}
}

// TestLowestFree: P5: a free cluster within the file is taken ahead of one behind its end.
func TestLowestFree(t *testing.T) {
	f := begun(t, 0, 1, 2, 3)
	table := layout.TableOf(f[7])
	for _, k := range []int{1, 3} {
		f[1][table[k].Cluster()] = 0
		table[k] = 0
	}
	f[7] = table.Cluster()
	gaps := []int{9, 11}
	v := opened(t, f)
	exact(t, v)
	if more := written(t, v, 40, text("x")); more != 0 {
		t.Errorf("P5: the file is %d longer though two clusters were free", more)
	}
	exact(t, v)
	p := v.find(6, 40)
	got := []int{p.second.Cluster(), p.block.Cluster()}
	slices.Sort(got)
	if !slices.Equal(got, gaps) {
		t.Errorf("P5: the clusters %v were taken, not %v", got, gaps)
	}
}

// TestWriteNotExact: counts that are too high and marks that are missing spoil nothing.
func TestWriteNotExact(t *testing.T) {
	for name, spoil := range map[string]func(f []api.Cluster){
		"no mark at a table":       func(f []api.Cluster) { f[6][0] = 0 },
		"no mark at a block":       func(f []api.Cluster) { f[7][0] = 0 },
		"no marks":                 func(f []api.Cluster) { f[6][0], f[7][0] = 0, 0 },
		"a table's count too high": func(f []api.Cluster) { f[6][0], f[1][7] = 0, 2 },
		"a block's count too high": func(f []api.Cluster) { f[7][0], f[1][8] = 0, 254 },
	} {
		f := begun(t, 0, 1, 63)
		spoil(f)
		v := opened(t, f)
		if oracle.Exact(f) == nil {
			t.Errorf("%s: exact", name)
		}
		for _, n := range []int{0, 1, 0, 31, 63} {
			written(t, v, n, text(name))
		}
	}
}

// TestNewCut: a file that is cut off within New is a whole new disk, or has no head.
func TestNewCut(t *testing.T) {
	for cut := range oracle.Cuts(nil, New().Log()) {
		if len(cut) == 0 || cut[layout.HeadAt] == (api.Cluster{}) {
			continue
		}
		if sound(t, cut) != (oracle.Told{}) {
			t.Errorf("a cut within New leaves a disk that never was")
		}
	}
}
