package vellum_test

import (
	"math/rand"
	"slices"
	"strings"
	"testing"

	"vellum/api"
	"vellum/oracle"
	"vellum/vellum"
)

var noNames = []string{
	"", "A", "aB", "Z", "a1", "0", "a b", " a", "a ", "a-", "`", "{", "thirteenlette", strings.Repeat("a", 1<<16),
	"é", "aé", "ａ", "a\x00", "\x00", "\x00a", "\xe1", "abc\xff", "a\nb",
}

// TestNoName: P1 and P4: no name comes ahead of every other error, and nothing changes.
func TestNoName(t *testing.T) {
	d := vellum.New()
	write(t, d, 5, text("x"))
	for range 2 {
		file, log := d.File(), d.Log()
		for _, name := range noNames {
			for what, e := range map[string]api.Errno{"Take": d.Take(name), "Return": d.Return(name), "Drop": d.Drop(name)} {
				if e != api.ErrName {
					t.Errorf("P4: %s(%.20q) = %d", what, name, e)
				}
			}
			for _, n := range []int{5, 64, -1} {
				if c, e := d.ReadOf(name, n); c != (api.Cluster{}) || e != api.ErrName {
					t.Errorf("P4: ReadOf(%.20q, %d) = %q, %d", name, n, c, e)
				}
			}
		}
		if !slices.Equal(d.File(), file) || !slices.Equal(d.Log(), log) {
			t.Errorf("P1: a refused call has changed the file or the log")
		}
		for _, name := range []string{"a", "b", "c", "d"} { // and once more with all pictures there
			d.Take(name)
		}
	}
}

// TestNames: P4: the shortest and longest ones, every letter, and what begins alike is not the same.
func TestNames(t *testing.T) {
	for _, names := range [][]string{
		{"a", "z", "aa", "az"},
		{"abcdefghijkl", "mnopqrstuvwx", "yz", "abcdefghijk"},
		{"zzzzzzzzzzzz", "zzzzzzzzzzz", "zz", "z"},
	} {
		d := vellum.New()
		var want oracle.Told
		for i, name := range names {
			for _, other := range names[i:] {
				if _, e := d.ReadOf(other, 0); e != api.ErrNone {
					t.Errorf("P4: ReadOf(%s, 0) ahead of Take = %d", other, e)
				}
			}
			want.Disk[0] = text(name)
			write(t, d, 0, want.Disk[0])
			take(t, d, name)
			want.Names[i], want.Pictures[i] = name, want.Disk
			tells(t, d, want)
			if e := d.Take(name); e != api.ErrKnown {
				t.Errorf("P4: Take(%s) once more = %d", name, e)
			}
		}
		for _, name := range []string{"y", "abcdefghij"} {
			if e := d.Take(name); e != api.ErrFull {
				t.Errorf("P4: Take(%s) of a fifth = %d", name, e)
			}
		}
		tells(t, d, want)
	}
}

// TestNone: P4: a name that is not there, ahead of a number that is not.
func TestNone(t *testing.T) {
	d := vellum.New()
	take(t, d, "a")
	file, log := d.File(), d.Log()
	for _, name := range []string{"b", "aa"} {
		if e := d.Return(name); e != api.ErrNone {
			t.Errorf("P4: Return(%s) = %d", name, e)
		}
		if e := d.Drop(name); e != api.ErrNone {
			t.Errorf("P4: Drop(%s) = %d", name, e)
		}
		for _, n := range append([]int{0, 63}, noBlocks...) {
			if c, e := d.ReadOf(name, n); c != (api.Cluster{}) || e != api.ErrNone {
				t.Errorf("P4: ReadOf(%s, %d) = %q, %d", name, n, c, e)
			}
		}
	}
	for _, n := range noBlocks {
		if c, e := d.ReadOf("a", n); c != (api.Cluster{}) || e != api.ErrNumber {
			t.Errorf("P4: ReadOf(a, %d) = %q, %d", n, c, e)
		}
	}
	if !slices.Equal(d.File(), file) || !slices.Equal(d.Log(), log) {
		t.Errorf("P1: a refused call has changed the file or the log")
	}
}

// TestEmptyPicture: a picture of a disk that is all noughts is one like others.
func TestEmptyPicture(t *testing.T) {
	d := vellum.New()
	take(t, d, "a")
	want := oracle.Told{Names: [api.MaxPictures]string{"a"}}
	tells(t, d, want)
	want.Disk[31] = text("x")
	write(t, d, 31, want.Disk[31])
	tells(t, d, want)
	if e := d.Return("a"); e != api.OK {
		t.Errorf("P4: Return(a) = %d", e)
	}
	want.Disk[31] = api.Cluster{}
	tells(t, d, want)
	if e := d.Drop("a"); e != api.OK {
		t.Errorf("P4: Drop(a) = %d", e)
	}
	holds(t, d, want.Disk)
}

// TestListMemory: P2: a list of names belongs to the caller, spare room too.
func TestListMemory(t *testing.T) {
	d := vellum.New()
	var early [][]string
	for i, name := range []string{"a", "b", "c", "d"} {
		take(t, d, name)
		spoil(d.List(), "spoilt")
		early = append(early, d.List())
		for k, l := range early {
			if got := strings.Join(l, ""); got != "abcd"[:k+1] {
				t.Errorf("P2: behind %d pictures an earlier List() is %s", i+1, got)
			}
		}
	}
	d.Drop("b")
	if got := strings.Join(early[3], ""); got != "abcd" {
		t.Errorf("P2: Drop has changed an earlier List(): %s", got)
	}
}

// model: what a disk has to tell, and what the calls have to answer while there is room.
type model struct{ oracle.Told }

func (m *model) find(name string) int { return slices.Index(m.Names[:], name) }

func (m *model) take(name string) api.Errno {
	i := m.find("")
	switch {
	case m.find(name) >= 0:
		return api.ErrKnown
	case i < 0:
		return api.ErrFull
	}
	m.Names[i], m.Pictures[i] = name, m.Disk
	return api.OK
}

func (m *model) giveBack(name string) api.Errno {
	i := m.find(name)
	if i < 0 {
		return api.ErrNone
	}
	m.Disk = m.Pictures[i]
	return api.OK
}

func (m *model) drop(name string) api.Errno {
	i := m.find(name)
	if i < 0 {
		return api.ErrNone
	}
	copy(m.Names[i:], m.Names[i+1:])
	copy(m.Pictures[i:], m.Pictures[i+1:])
	m.Names[api.MaxPictures-1], m.Pictures[api.MaxPictures-1] = "", [api.Blocks]api.Cluster{}
	return api.OK
}

// step: one call at random, on the disk and on the model; answers what both say.
func step(r *rand.Rand, d *vellum.Disk, m *model, blocks int) (what string, got, want api.Errno) {
	name := string(rune('a' + r.Intn(6)))
	switch r.Intn(9) {
	default:
		n := r.Intn(blocks) * 37 % api.Blocks
		m.Disk[n] = api.Cluster{}
		if r.Intn(8) > 0 {
			r.Read(m.Disk[n][:])
		}
		return "Write", d.Write(n, m.Disk[n]), api.OK
	case 0, 1:
		return "Take", d.Take(name), m.take(name)
	case 2:
		return "Return", d.Return(name), m.giveBack(name)
	case 3:
		return "Drop", d.Drop(name), m.drop(name)
	}
}

// TestCut: P7 for all calls: each file that a cut may leave is sound and tells
// the disk and the pictures as they were before the call or as they are behind it.
func TestCut(t *testing.T) {
	for seed := range int64(8) {
		r := rand.New(rand.NewSource(seed))
		d, m := vellum.New(), &model{}
		for range 150 {
			file, from, before := d.File(), len(d.Log()), m.Told
			what, got, want := step(r, d, m, 24)
			if got != want {
				t.Fatalf("P4: %s = %d, want %d", what, got, want)
			}
			for cut := range oracle.Cuts(file, d.Log()[from:]) {
				told, err := oracle.Sound(cut)
				if err != nil {
					t.Fatalf("P7: a cut in %s leaves a file that is not sound: %v", what, err)
				}
				if told != before && told != m.Told {
					t.Fatalf("P7: a cut in %s leaves a disk that never was", what)
				}
			}
			if err := oracle.Exact(d.File()); err != nil {
				t.Fatalf("P5: behind %s the file is not exact: %v", what, err)
			}
		}
		tells(t, d, m.Told)
	}
}

// TestAlone: P2: two disks with the same calls tell the same, whatever another one did meanwhile.
func TestAlone(t *testing.T) {
	d, m, r := vellum.New(), &model{}, rand.New(rand.NewSource(5))
	for range 200 {
		step(r, d, m, 20)
	}
	again, other := vellum.New(), vellum.New()
	m, r = &model{}, rand.New(rand.NewSource(5))
	noise, aside := rand.New(rand.NewSource(6)), &model{}
	for range 200 {
		step(r, again, m, 20)
		step(noise, other, aside, 20)
	}
	if !slices.Equal(d.File(), again.File()) || !slices.Equal(d.Log(), again.Log()) {
		t.Errorf("P2: what one disk tells depends on another")
	}
}

// TestFullDisk: P3 to P5 with no cluster left: what is refused changes nothing,
// what is dropped makes room again.
func TestFullDisk(t *testing.T) {
	d, m := vellum.New(), &model{}
	fill := func(p int) int {
		for n := range api.Blocks {
			c := text(string([]byte{byte(1 + p), byte(1 + n)}))
			if e := d.Write(n, c); e == api.ErrFull {
				return n
			} else if e != api.OK {
				t.Fatalf("P3: Write(%d) = %d", n, e)
			}
			m.Disk[n] = c
		}
		return api.Blocks
	}
	for p, name := range []string{"a", "b", "c"} {
		if n := fill(p); n != api.Blocks {
			t.Fatalf("P3: with %d pictures the disk is full at %d", p, n)
		}
		take(t, d, name)
		m.take(name)
	}
	if n := fill(3); n != 46 { // 256 less 6, 4 first tables and 3 times 66 leave 48, two of them second tables
		t.Errorf("P3: with 3 pictures the disk is full at %d", n)
	}
	tells(t, d, m.Told)
	for what, e := range map[string]api.Errno{"Write": d.Write(63, text("x")), "Take": d.Take("d"), "Return": d.Return("a")} {
		if e != api.ErrFull {
			t.Errorf("P3, P4: %s with no cluster free = %d", what, e)
		}
	}
	tells(t, d, m.Told)
	if e := d.Drop("b"); e != m.drop("b") {
		t.Errorf("P4: Drop(b) = %d", e)
	}
	tells(t, d, m.Told)
	if n := fill(4); n != api.Blocks {
		t.Errorf("P5: behind Drop the disk is full at %d", n)
	}
	if e := d.Return("a"); e != m.giveBack("a") {
		t.Errorf("P4: Return(a) = %d", e)
	}
	tells(t, d, m.Told)
	if n := len(d.File()); n != api.MaxClusters {
		t.Errorf("P5: the file has %d clusters", n)
	}
	if telling(open(t, d.File())) != m.Told {
		t.Errorf("P8: the full disk, opened, tells something else")
	}
}
