package vellum_test

import (
	"errors"
	"math/rand"
	"slices"
	"testing"

	"vellum/api"
	"vellum/oracle"
	"vellum/vellum"
)

// byHand: a file that is exact: the disk (6) and the picture a (12) share a
// second table (7) with the blocks 0 and 31 (8, 9), and each has one of its own
// (10, 13) with block 33 (11, 14); the picture bc (15) is empty; 16 is free.
func byHand() []api.Cluster {
	f := []api.Cluster{
		text("VELM\x00\x11\x00\x06"),
		text("\x01\x01\x01\x01\x01\x01\x01\x02\x02\x02\x01\x01\x01\x01\x01\x01"), {}, {}, {},
		text("\x00\x0ca"),
		text("\x00\x07\x80\x0a"),
		text("\x00\x08"), text("nought"), text("thirty-one"),
		text("\x00\x00\x80\x0b"), text("disk's"),
		text("\x00\x07\x80\x0d"),
		text("\x00\x00\x80\x0e"), text("picture's"),
		{}, text("free"),
	}
	copy(f[5][16:], "\x00\x0fbc")
	copy(f[7][62:], "\x00\x09")
	return f
}

func byHandTells() oracle.Told {
	var want oracle.Told
	want.Disk[0], want.Disk[31], want.Disk[33] = text("nought"), text("thirty-one"), text("disk's")
	want.Names[0], want.Pictures[0] = "a", want.Disk
	want.Pictures[0][33] = text("picture's")
	want.Names[1] = "bc"
	return want
}

// edit: bytes that are put into a cluster.
type edit struct {
	cluster, at int
	bytes       string
}

func edited(f []api.Cluster, edits ...edit) []api.Cluster {
	f = slices.Clone(f)
	for _, e := range edits {
		copy(f[e.cluster][e.at:], e.bytes)
	}
	return f
}

// open: a file that is sound: what the disk tells, and that it was only looked at.
func open(t *testing.T, file []api.Cluster) *vellum.Disk {
	t.Helper()
	given := slices.Clone(file)
	d, at, e := vellum.Open(given)
	if d == nil || at != 0 || e != api.OK {
		t.Fatalf("P8: Open of a sound file = %v, %d, %d", d, at, e)
	}
	if !slices.Equal(given, file) || len(d.Log()) != 0 {
		t.Errorf("P2, P6: Open has written into the file")
	}
	for i := range given {
		given[i] = text("turned")
	}
	whole := slices.Clone(file)
	for len(whole) < int(file[0][4])<<8+int(file[0][5]) {
		whole = append(whole, api.Cluster{})
	}
	if !slices.Equal(d.File(), whole) {
		t.Errorf("P2, P8: the file that was opened is another one")
	}
	if told, _ := oracle.Sound(file); telling(d) != told {
		t.Errorf("P8: the disk that was opened tells something else than its file")
	}
	return d
}

// telling: what a disk and its pictures hold, by the calls.
func telling(d *vellum.Disk) oracle.Told {
	var told oracle.Told
	copy(told.Names[:], d.List())
	for n := range api.Blocks {
		told.Disk[n], _ = d.Read(n)
		for i, name := range d.List() {
			told.Pictures[i][n], _ = d.ReadOf(name, n)
		}
	}
	return told
}

func notSound(t *testing.T, what any, file []api.Cluster, want int) {
	t.Helper()
	given := slices.Clone(file)
	if d, at, e := vellum.Open(file); d != nil || at != want || e != api.ErrForm {
		t.Errorf("P8: Open of %v = %v, %d, %d, want cluster %d", what, d, at, e, want)
	}
	if !slices.Equal(given, file) {
		t.Errorf("P2: Open of %v has changed the file", what)
	}
	var w oracle.Wrong
	if _, err := oracle.Sound(file); !errors.As(err, &w) || w.At != want {
		t.Errorf("%v: the oracle says %v", what, err)
	}
}

func TestOpen(t *testing.T) {
	d := open(t, byHand())
	if telling(d) != byHandTells() {
		t.Errorf("P8: the disk tells something else")
	}
	if s := d.Check(); s != (api.State{Clusters: 17, Used: 16}) {
		t.Errorf("P8: Check() = %+v", s)
	}
	for _, n := range noBlocks {
		if c, e := d.Read(n); c != (api.Cluster{}) || e != api.ErrNumber {
			t.Errorf("P3: Read(%d) = %q, %d", n, c, e)
		}
	}
	open(t, vellum.New().File())
}

// wrongs: single faults of the file by hand, in the order of P8: each is told
// ahead of all that stand behind it.
var wrongs = []struct {
	edit
	want int
}{
	{edit{0, 0, "v"}, 0}, {edit{0, 3, "N"}, 0}, {edit{0, 8, "\x01"}, 0}, {edit{0, 63, "\x01"}, 0},
	{edit{0, 4, "\x00\x10"}, 0}, {edit{0, 4, "\x00\x06"}, 0}, {edit{0, 4, "\x00\x00"}, 0}, {edit{0, 4, "\x01\x01"}, 0},
	{edit{0, 4, "\xff\xff"}, 0}, {edit{0, 4, "\x80\x11"}, 0},

	{edit{5, 0, "\x00\x00"}, 5}, {edit{5, 2, "\x00"}, 5}, {edit{5, 2, "A"}, 5}, {edit{5, 2, "`"}, 5}, {edit{5, 2, "{"}, 5},
	{edit{5, 4, "b"}, 5}, {edit{5, 13, "b"}, 5}, {edit{5, 14, "\x01"}, 5}, {edit{5, 15, "\x01"}, 5},
	{edit{5, 18, "a\x00"}, 5}, {edit{5, 16, "\x00\x00"}, 5}, {edit{5, 31, "z"}, 5}, {edit{5, 32, "\x00\x10"}, 5},
	{edit{5, 34, "d"}, 5}, {edit{5, 47, "\x01"}, 5}, {edit{5, 48, "\x00\x10d"}, 5}, {edit{5, 63, "\x01"}, 5},

	{edit{0, 6, "\x00\x00"}, 0}, {edit{0, 6, "\x00\x05"}, 0}, {edit{0, 6, "\x00\x11"}, 0}, {edit{0, 6, "\x80\x06"}, 0}, {edit{0, 6, "\xff\xff"}, 0},
	{edit{6, 0, "\x80\x00"}, 6}, {edit{6, 0, "\x00\x05"}, 6}, {edit{6, 0, "\x80\x05"}, 6}, {edit{6, 0, "\x00\x06"}, 6},
	{edit{6, 0, "\x00\x11"}, 6}, {edit{6, 0, "\x01\x07"}, 6}, {edit{6, 0, "\xff\xff"}, 6},
	{edit{7, 0, "\x80\x00"}, 7}, {edit{7, 0, "\x00\x06"}, 7}, {edit{7, 0, "\x00\x07"}, 7}, {edit{7, 2, "\x00\x01"}, 7},
	{edit{7, 2, "\x80\x11"}, 7}, {edit{7, 60, "\x7f\xff"}, 7},
	{edit{6, 2, "\x00\x08"}, 6}, {edit{6, 2, "\x80\x09"}, 6}, {edit{6, 2, "\x00\x06"}, 6},
	{edit{10, 0, "\x00\x07"}, 10}, {edit{10, 2, "\x80\x0a"}, 10}, {edit{10, 62, "\x00\x04"}, 10},
	{edit{6, 4, "\x00\x10"}, 6}, {edit{6, 4, "\x80\x00"}, 6}, {edit{6, 62, "\x00\x07"}, 6}, {edit{6, 63, "\x01"}, 6},
	{edit{5, 0, "\x00\x05"}, 5}, {edit{5, 0, "\x00\x06"}, 5}, {edit{5, 0, "\x00\x07"}, 5}, {edit{5, 0, "\x00\x0b"}, 5},
	{edit{5, 0, "\x00\x11"}, 5}, {edit{5, 0, "\x80\x0c"}, 5}, {edit{5, 0, "\x01\x0c"}, 5},
	{edit{12, 0, "\x00\x08"}, 12}, {edit{12, 0, "\x00\x06"}, 12}, {edit{12, 0, "\x80\x0c"}, 12}, {edit{12, 2, "\x00\x0b"}, 12},
	{edit{13, 0, "\x00\x0a"}, 13}, {edit{13, 62, "\x00\x0c"}, 13},
	{edit{12, 4, "\x00\x10"}, 12}, {edit{12, 62, "\x80\x10"}, 12},
	{edit{5, 16, "\x00\x06"}, 5}, {edit{5, 16, "\x00\x0c"}, 5}, {edit{5, 16, "\x00\x0e"}, 5}, {edit{5, 16, "\x00\x0a"}, 5},
	{edit{15, 0, "\x00\x0e"}, 15}, {edit{15, 2, "\x00\x0c"}, 15}, {edit{15, 32, "\x00\x10"}, 15},

	{edit{1, 0, "\x00"}, 0}, {edit{1, 1, "\xff"}, 1}, {edit{1, 4, "\x00"}, 4}, {edit{1, 5, "\x00"}, 5}, {edit{1, 6, "\x00"}, 6},
	{edit{1, 7, "\x01"}, 7}, {edit{1, 8, "\x01"}, 8}, {edit{1, 9, "\xff"}, 9}, {edit{1, 12, "\x00"}, 12}, {edit{1, 15, "\x00"}, 15},
	{edit{1, 16, "\xff"}, 16}, {edit{1, 17, "\x01"}, 17}, {edit{1, 63, "\x01"}, 63}, {edit{2, 0, "\x01"}, 64}, {edit{4, 63, "\x01"}, 255},

	{edit{6, 0, "\x80\x07"}, 6}, {edit{7, 0, "\x80\x08"}, 7}, {edit{7, 62, "\x80\x09"}, 7}, {edit{1, 10, "\x02"}, 6}, {edit{1, 11, "\xfe"}, 10},
	{edit{12, 0, "\x80\x07"}, 12}, {edit{1, 13, "\x02"}, 12}, {edit{1, 14, "\x02"}, 13},
}

func TestOpenWrong(t *testing.T) {
	for _, w := range wrongs {
		notSound(t, w.edit, edited(byHand(), w.edit), w.want)
	}
}

// TestOpenWrongOrder: of two faults that which comes first is told.
func TestOpenWrongOrder(t *testing.T) {
	for i, first := range wrongs {
		for _, second := range wrongs[i+1:] {
			both := edited(byHand(), second.edit, first.edit)
			if first.want != second.want && slices.Equal(both, edited(both, second.edit)) {
				notSound(t, []edit{first.edit, second.edit}, both, first.want)
			}
		}
	}
}

// TestOpenUsedTooOften: what is told more often than the count says, and more often than any count can say.
func TestOpenUsedTooOften(t *testing.T) {
	notSound(t, "a block twice", edited(byHand(), edit{7, 2, "\x00\x08"}), 8)
	notSound(t, "a block twice", edited(byHand(), edit{13, 62, "\x00\x0e"}), 14)
	notSound(t, "a table twice", edited(byHand(), edit{15, 0, "\x00\x0d"}), 13)
	f := vellum.New().File()
	f = append(f, api.Cluster{}, text("often"), api.Cluster{}, api.Cluster{}, api.Cluster{}, api.Cluster{})
	f[0][5] = 13
	f[5] = text("\x00\x09a\x00\x00\x00\x00\x00\x00\x00\x00\x00\x00\x00\x00\x00\x00\x0ab")
	copy(f[5][32:], "\x00\x0bc")
	copy(f[5][48:], "\x00\x0cd")
	for _, n := range []int{6, 9, 10, 11, 12} {
		f[n] = text("\x00\x07\x00\x07")
		f[1][n] = 1
	}
	f[1][7] = 10
	for k := range 32 {
		f[7][2*k+1] = 8
	}
	for _, count := range []byte{0, 1, 64, 254, 255} { // 320 uses
		f[1][8] = count
		notSound(t, "320 uses", f, 8)
	}
	f[5] = text(string(f[5][:48])) // 256 uses, and cluster 12 is lost
	for _, count := range []byte{0, 254, 255} {
		f[1][8] = count
		notSound(t, "256 uses", f, 8)
	}
	f[5] = text(string(f[5][:32])) // 192 uses
	f[1][8] = 191
	notSound(t, "192 uses", f, 8)
	f[1][8] = 192
	d := open(t, f)
	if s := d.Check(); s != (api.State{Clusters: 13, Used: 11, Lost: 2, Over: 1}) {
		t.Errorf("P8: Check() = %+v", s)
	}
}

// TestOpenLength: how many clusters there may be, and what is missing is noughts.
func TestOpenLength(t *testing.T) {
	f := byHand()
	for n := range 6 {
		notSound(t, n, f[:n], 0)
	}
	notSound(t, "nil", nil, 0)
	for _, more := range []int{1, 239, 240, 1 << 12} {
		notSound(t, more, append(slices.Clone(f), make([]api.Cluster, more)...), 0)
	}
	long := append(slices.Clone(f), make([]api.Cluster, 239)...)
	open(t, edited(long, edit{0, 4, "\x01\x00"}))
	notSound(t, "257", append(edited(long, edit{0, 4, "\x01\x01"}), api.Cluster{}), 0)
	if telling(open(t, vellum.New().File()[:6])) != (oracle.Told{}) {
		t.Errorf("P8: a new disk without its first table is not all noughts")
	}
	six := edited(vellum.New().File()[:6], edit{0, 4, "\x00\x06"})
	notSound(t, "six, and the head says so", six, 0)
	notSound(t, "six, and no list", edited(six, edit{5, 0, "x"}), 0)
}

// TestOpenShort: P6 and P8: the end is noughts, whatever lies in the list's spare room; the log goes on from what came in.
func TestOpenShort(t *testing.T) {
	for n := 6; n < 17; n++ {
		room := byHand()
		for i := n; i < len(room); i++ {
			room[i] = text("spare")
		}
		file := slices.Clone(room[:n])
		if _, err := oracle.Sound(file); err != nil {
			t.Fatalf("not sound without the end from %d on: %v", n, err)
		}
		open(t, file)
		d, _, _ := vellum.Open(room[:n])
		want := telling(d)
		if s := d.Check(); s != oracle.State(file) || s.Clusters != 17 {
			t.Errorf("P8: without the end from %d on Check() = %+v", n, s)
		}
		for _, step := range []int{0, 33, 63} {
			want.Disk[step] = text("new")
			write(t, d, step, want.Disk[step])
			if telling(d) != want || !slices.Equal(oracle.Replay(file, d.Log()), d.File()) {
				t.Errorf("P6: without the end from %d on the log leads to another file", n)
			}
		}
		if !slices.Equal(room[:n], file) || room[n] != text("spare") {
			t.Errorf("P2: the list that was handed in has changed")
		}
	}
}

// TestOpenTwice: P2: two disks of one list know nothing of each other.
func TestOpenTwice(t *testing.T) {
	f := byHand()
	a, _, _ := vellum.Open(f)
	b, _, _ := vellum.Open(f)
	write(t, a, 33, text("a's"))
	a.Drop("bc")
	if telling(b) != byHandTells() || !slices.Equal(b.File(), f) || len(b.Log()) != 0 {
		t.Errorf("P2: one disk has changed another")
	}
	if !slices.Equal(f, byHand()) {
		t.Errorf("P2: the list that was handed in has changed")
	}
}

// TestOpenAgain: a file that the calls have made is opened with all that it tells.
func TestOpenAgain(t *testing.T) {
	r, d, m := rand.New(rand.NewSource(7)), vellum.New(), &model{}
	for range 150 {
		if what, got, want := step(r, d, m, 24); got != want {
			t.Fatalf("P4: %s of an opened disk = %d, want %d", what, got, want)
		}
		file := d.File()
		d = open(t, file)
		if telling(d) != m.Told {
			t.Fatalf("P8: the disk that was opened tells something else")
		}
		if s := d.Check(); s.Lost != 0 || s.Over != 0 || s.Unmarked != 0 || s.Clusters != len(file) {
			t.Fatalf("P5, P8: Check() = %+v", s)
		}
	}
}

// spoilt: the file with some bytes changed at places that mean something.
func spoilt(r *rand.Rand, f []api.Cluster) []api.Cluster {
	f = slices.Clone(f)
	for range 1 + r.Intn(3) {
		n := 6 + r.Intn(len(f)-6)
		switch r.Intn(10) {
		case 0:
			f[0][r.Intn(12)] ^= 1 << r.Intn(8)
		case 1:
			f[5][r.Intn(api.Size)] ^= byte(r.Intn(256))
		case 2:
			f[5][16*r.Intn(4)+1] = byte(r.Intn(len(f)))
		case 3, 4:
			f[1+r.Intn(2)][r.Intn(api.Size)] += byte(r.Intn(3)) - 1
		case 5:
			f[n][2*r.Intn(2)+1] = byte(r.Intn(len(f) + 2))
		case 6:
			f[n][2*r.Intn(32)+1] = byte(r.Intn(len(f) + 2))
		case 7:
			f[n][2*r.Intn(4)] ^= 0x80
		case 8:
			f[n][2*r.Intn(4)] &^= 0x80
		case 9:
			f[1][r.Intn(min(len(f), api.Size))] += byte(r.Intn(3))
		}
	}
	return f
}

// TestOpenSpoilt: P1 and P8: of many files the answer is the one that goes by
// the document's words, and a disk that was opened of one that is sound goes on well.
func TestOpenSpoilt(t *testing.T) {
	r := rand.New(rand.NewSource(11))
	right, wrong := 0, 0
	for range 60 {
		d, m := vellum.New(), &model{}
		for range r.Intn(40) {
			step(r, d, m, 5)
		}
		for range 60 {
			f := spoilt(r, d.File())
			var w oracle.Wrong
			if _, err := oracle.Sound(f); errors.As(err, &w) {
				wrong++
				notSound(t, "a spoilt file", f, w.At)
				continue
			}
			right++
			goesOn(t, r, f)
		}
	}
	if right < 500 || wrong < 500 {
		t.Errorf("only %d files were sound, %d not", right, wrong)
	}
}

// TestOpenNoise: P1: bytes of any kind and number.
func TestOpenNoise(t *testing.T) {
	r := rand.New(rand.NewSource(13))
	for range 2000 {
		f := make([]api.Cluster, r.Intn(300))
		for i := range f {
			if r.Intn(4) > 0 {
				r.Read(f[i][:])
			}
		}
		if len(f) > 0 && r.Intn(4) > 0 {
			f[0] = text("VELM\x00\xff\x00\x06")
			f[0][5], f[0][7] = byte(r.Intn(256)), byte(r.Intn(16))
		}
		if len(f) > 5 && r.Intn(4) > 0 {
			f[5] = api.Cluster{}
		}
		if _, err := oracle.Sound(f); err == nil {
			open(t, f)
		} else if d, _, e := vellum.Open(f); d != nil || e != api.ErrForm {
			t.Fatalf("P8: Open of noise = %v, %d", d, e)
		}
	}
}
