package volume

import (
	"math/rand"
	"slices"
	"strings"
	"testing"

	"vellum/api"
	"vellum/layout"
	"vellum/oracle"
)

func taken(t *testing.T, v *Volume, name string) int {
	t.Helper()
	behind := sound(t, v.File())
	i := slices.Index(behind.Names[:], "")
	behind.Names[i], behind.Pictures[i] = name, behind.Disk
	return made(t, v, "Take", func() api.Errno { return v.Take(name) }, behind)
}

func returned(t *testing.T, v *Volume, name string) int {
	t.Helper()
	behind := sound(t, v.File())
	behind.Disk = behind.Pictures[slices.Index(behind.Names[:], name)]
	return made(t, v, "Return", func() api.Errno { return v.Return(name) }, behind)
}

func dropped(t *testing.T, v *Volume, name string) {
	t.Helper()
	behind := sound(t, v.File())
	i := slices.Index(behind.Names[:], name)
	for ; i < api.MaxPictures-1; i++ {
		behind.Names[i], behind.Pictures[i] = behind.Names[i+1], behind.Pictures[i+1]
	}
	behind.Names[i], behind.Pictures[i] = "", [api.Blocks]api.Cluster{}
	if more := made(t, v, "Drop", func() api.Errno { return v.Drop(name) }, behind); more != 0 {
		t.Errorf("P5: Drop has made the file %d longer", more)
	}
}

// free: how many clusters of the file are.
func free(v *Volume) int {
	n := 0
	for at, count := range v.counts() {
		if count == 0 && at < len(v.File()) {
			n++
		}
	}
	return n
}

// TestTakeLayout: example 3, and the list's bytes.
func TestTakeLayout(t *testing.T) {
	v := opened(t, begun(t, 0))
	if more := taken(t, v, "a"); more != 1 {
		t.Errorf("example 3: Take has made the file %d longer", more)
	}
	exact(t, v)
	f := v.File()
	if f[layout.ListAt] != text("\x00\x09a") || f[9] != f[6] || f[6] != text("\x00\x07") || f[7] != text("\x00\x08") {
		t.Errorf("example 3: behind Take the file is %q", f)
	}
	if f[layout.CountsAt] != text("\x01\x01\x01\x01\x01\x01\x01\x02\x02\x01") {
		t.Errorf("example 3: behind Take the counts are %q", f[layout.CountsAt])
	}
	if more := written(t, v, 0, text("y")); more != 2 {
		t.Errorf("example 3: Write has made the file %d longer", more)
	}
	exact(t, v)
}

// TestPicturesAtEveryCut: all calls on a disk, at random.
func TestPicturesAtEveryCut(t *testing.T) {
	names := []string{"a", "bb", "ccc", "dddddddddddd", "e"}
	for seed := range int64(6) {
		r := rand.New(rand.NewSource(seed))
		v := New()
		for range 120 {
			name := names[r.Intn(len(names))]
			known := slices.Contains(v.List(), name)
			switch k := r.Intn(9); {
			case k < 5:
				written(t, v, r.Intn(7)*10, text(string(rune('A'+r.Intn(26)))))
			case k < 7 && !known && len(v.List()) < api.MaxPictures:
				taken(t, v, name)
			case k == 7 && known:
				returned(t, v, name)
			case k == 8 && known:
				dropped(t, v, name)
			}
			exact(t, v)
		}
	}
}

// TestReturnLayout: the disk's new first table takes a free cluster, and what was the disk's alone is free.
func TestReturnLayout(t *testing.T) {
	v := opened(t, begun(t, 0, 40))
	taken(t, v, "a")
	written(t, v, 0, text("y"))
	written(t, v, 63, text("z"))
	if n := free(v); n != 0 {
		t.Fatalf("P5: %d clusters are free", n)
	}
	if more := returned(t, v, "a"); more != 1 {
		t.Errorf("P5: Return has made the file %d longer", more)
	}
	exact(t, v)
	if n := free(v); n != 5 { // two second tables, two blocks, the old first table
		t.Errorf("P5: behind Return %d clusters are free", n)
	}
	if more := returned(t, v, "a"); more != 0 || v.head().First != 6 {
		t.Errorf("P5: Return has taken cluster %d", v.head().First)
	}
	exact(t, v)
}

func TestDropLayout(t *testing.T) {
	v := opened(t, begun(t, 0, 40))
	taken(t, v, "a")
	dropped(t, v, "a")
	exact(t, v)
	if n := free(v); n != 1 {
		t.Errorf("P5: behind Drop %d clusters are free", n)
	}
	taken(t, v, "a")
	written(t, v, 0, text("y"))
	taken(t, v, "b")
	dropped(t, v, "a")
	exact(t, v)
	if n := free(v); n != 3 { // a first table, a second table, a block
		t.Errorf("P5: behind Drop %d clusters are free", n)
	}
}

// repeated: a file in which one second table is told by both numbers of the
// disk's first table, and one block by so many of its numbers.
func repeated(times int) []api.Cluster {
	f := New().File()
	f = append(f, api.Cluster{}, text("often"))
	f[0][5] = 9
	f[1][7], f[1][8] = 2, byte(2*times)
	f[6] = text("\x00\x07\x00\x07")
	for k := range times {
		f[7][2*k+1] = 8
	}
	return f
}

// TestRepeated: what is told several times over is counted as often.
func TestRepeated(t *testing.T) {
	v := opened(t, repeated(3))
	exact(t, v)
	taken(t, v, "a")
	exact(t, v)
	written(t, v, 0, text("other"))
	exact(t, v)
	taken(t, v, "b")
	returned(t, v, "a")
	exact(t, v)
	dropped(t, v, "a")
	exact(t, v)
	for _, n := range []int{0, 1, 2, 32, 33} {
		written(t, v, n, text("own"))
		exact(t, v)
	}
	taken(t, v, "a")
	returned(t, v, "b")
	exact(t, v)
	dropped(t, v, "b")
	exact(t, v)
	returned(t, v, "a")
	dropped(t, v, "a")
	exact(t, v)
}

// TestRepeatedGone: a cluster whose uses all go at once is free, not lone.
func TestRepeatedGone(t *testing.T) {
	v := opened(t, repeated(3))
	taken(t, v, "a")
	for n := range 64 {
		written(t, v, n, text("own"))
	}
	exact(t, v)
	dropped(t, v, "a")
	exact(t, v)
	if n := free(v); n != 3 {
		t.Errorf("P5: behind Drop %d clusters are free", n)
	}
}

// TestMostUses: P4: a count of 254 may be, one above it not.
func TestMostUses(t *testing.T) {
	v := opened(t, repeated(32))
	taken(t, v, "a")
	taken(t, v, "b")
	refused(t, v, "Take", func() api.Errno { return v.Take("c") }, api.ErrFull)
	refused(t, v, "Return", func() api.Errno { return v.Return("a") }, api.ErrFull)
	dropped(t, v, "b")
	returned(t, v, "a")
	exact(t, v)
	for name, spot := range map[string][2]int{"table": {6, 7}, "block": {7, 8}} {
		f := begun(t, 0)
		f[spot[0]][0] = 0 // no mark
		f[1][spot[1]] = 253
		v := opened(t, f)
		taken(t, v, "a")
		refused(t, v, name, func() api.Errno { return v.Take("b") }, api.ErrFull)
		refused(t, v, name, func() api.Errno { return v.Return("a") }, api.ErrFull)
		written(t, v, 0, text("y"))
		returned(t, v, "a") // what was let go by Write makes room
		written(t, v, 0, text("y"))
		refused(t, v, name, func() api.Errno { return v.Take("a") }, api.ErrKnown)
		dropped(t, v, "a")
	}
}

// TestPicturesFull: P4: a cluster has to be free; the last one may be taken.
func TestPicturesFull(t *testing.T) {
	for room := range 3 {
		v := opened(t, filled(pictured(begun(t, 0, 40), 0, "a"), room))
		if room == 0 {
			refused(t, v, "Take", func() api.Errno { return v.Take("b") }, api.ErrFull)
			refused(t, v, "Return", func() api.Errno { return v.Return("a") }, api.ErrFull)
			dropped(t, v, "a")
			taken(t, v, "b")
			continue
		}
		taken(t, v, "b")
		if room == 1 {
			refused(t, v, "Take", func() api.Errno { return v.Take("c") }, api.ErrFull)
			refused(t, v, "Return", func() api.Errno { return v.Return("b") }, api.ErrFull)
		} else {
			returned(t, v, "a") // and lets the disk's old one go
			returned(t, v, "b")
			taken(t, v, "c")
		}
		dropped(t, v, "a")
		returned(t, v, "b")
	}
}

// TestFourPictures: P4: with room left, a fifth is refused and the others go on.
func TestFourPictures(t *testing.T) {
	v := opened(t, begun(t, 0, 63))
	for _, name := range []string{"d", "c", "b", "a"} {
		taken(t, v, name)
		written(t, v, 0, text("behind "+name))
	}
	refused(t, v, "Take", func() api.Errno { return v.Take("e") }, api.ErrFull)
	refused(t, v, "Take", func() api.Errno { return v.Take("a") }, api.ErrKnown)
	refused(t, v, "Return", func() api.Errno { return v.Return("e") }, api.ErrNone)
	refused(t, v, "Drop", func() api.Errno { return v.Drop("e") }, api.ErrNone)
	returned(t, v, "c")
	dropped(t, v, "c")
	taken(t, v, "e")
	if got := strings.Join(v.List(), " "); got != "d b a e" {
		t.Errorf("P4: List() = %s", got)
	}
	exact(t, v)
}

// TestPicturesNotExact: counts that are too high and marks that are missing spoil nothing.
func TestPicturesNotExact(t *testing.T) {
	for name, spoil := range map[string]func(f []api.Cluster){
		"no marks":                 func(f []api.Cluster) { f[6][0], f[7][0] = 0, 0 },
		"a table's count too high": func(f []api.Cluster) { f[6][0], f[1][7] = 0, 3 },
		"a block's count too high": func(f []api.Cluster) { f[7][0], f[1][8] = 0, 2 },
		"a cluster is lost":        func(f []api.Cluster) { f[7][0], f[7][1], f[1][8] = 0, 0, 2 },
		"a first table counted":    func(f []api.Cluster) { f[1][6] = 2 },
	} {
		f := begun(t, 0, 1, 63)
		spoil(f)
		v := opened(t, f)
		if oracle.Exact(f) == nil {
			t.Errorf("%s: exact", name)
		}
		taken(t, v, "a")
		written(t, v, 0, text("x"))
		taken(t, v, "b")
		returned(t, v, "a")
		dropped(t, v, "a")
		written(t, v, 1, text("y"))
		returned(t, v, "b")
		dropped(t, v, "b")
		written(t, v, 0, text("z"))
	}
}
