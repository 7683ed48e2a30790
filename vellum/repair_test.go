package vellum_test

import (
	"math/rand"
	"slices"
	"testing"

	"vellum/api"
	"vellum/oracle"
	"vellum/vellum"
)

// TestCheck: what of the file by hand is not exact, and that Repair makes it so.
func TestCheck(t *testing.T) {
	for _, c := range []struct {
		edits                      []edit
		used, lost, over, unmarked int
	}{
		{nil, 16, 0, 0, 0},
		{[]edit{{1, 16, "\x01"}}, 16, 1, 0, 0},
		{[]edit{{1, 16, "\xfe"}}, 16, 1, 0, 0},
		{[]edit{{1, 0, "\x02"}}, 16, 0, 1, 0},
		{[]edit{{1, 0, "\x02\xfe\x03\x04\x05\x06\x07"}}, 16, 0, 7, 0},
		{[]edit{{1, 7, "\x03\x04\x05"}}, 16, 0, 3, 0},
		{[]edit{{1, 12, "\x02"}, {1, 15, "\xfe"}}, 16, 0, 2, 0},
		{[]edit{{6, 2, "\x00"}}, 16, 0, 0, 1},
		{[]edit{{10, 2, "\x00"}}, 16, 0, 0, 1},
		{[]edit{{6, 2, "\x00"}, {10, 2, "\x00"}, {12, 2, "\x00"}, {13, 2, "\x00"}}, 16, 0, 0, 4},
		{[]edit{{10, 2, "\x00"}, {1, 11, "\x05"}}, 16, 0, 1, 1},
		{[]edit{{6, 2, "\x00\x00"}}, 14, 2, 0, 0},
		{[]edit{{6, 0, "\x00\x00"}}, 16, 0, 3, 3},
		{[]edit{{6, 0, "\x00\x00"}, {12, 0, "\x00\x00"}}, 13, 3, 0, 0},
		{[]edit{{5, 16, "\x00\x00\x00\x00"}}, 15, 1, 0, 0},
		{[]edit{{0, 6, "\x00\x10"}, {16, 0, "\x00\x00\x00\x00"}, {1, 16, "\x01"}}, 14, 3, 3, 3},
	} {
		f := edited(byHand(), c.edits...)
		d := open(t, f)
		want := api.State{Clusters: 17, Used: c.used, Lost: c.lost, Over: c.over, Unmarked: c.unmarked}
		if s := d.Check(); s != want || oracle.State(f) != want {
			t.Errorf("P8: %v: Check() = %+v, by the oracle %+v, want %+v", c.edits, s, oracle.State(f), want)
		}
		if len(d.Log()) != 0 {
			t.Errorf("P6: %v: Check has written something", c.edits)
		}
		repair(t, d)
		if s := d.Check(); s != (api.State{Clusters: 17, Used: c.used}) {
			t.Errorf("P8: %v: behind Repair Check() = %+v", c.edits, s)
		}
	}
}

// TestRepairShort: the end that was missing is there behind Repair, if it was all that was wrong too.
func TestRepairShort(t *testing.T) {
	for n := 6; n < 17; n++ {
		f := byHand()[:n]
		d := open(t, f)
		repair(t, d)
		if err := oracle.Exact(oracle.Replay(f, d.Log())); err != nil {
			t.Errorf("P6, P8: without the end from %d on, behind Repair: %v", n, err)
		}
	}
	d := open(t, byHand())
	d.Repair()
	if len(d.Log()) != 0 {
		t.Errorf("P8: Repair has written into an exact file")
	}
}

// call: makes one, and looks at P5 to P7: the log leads from the file that was
// there to the one that is, it is flushed, and at every cut Open finds the disk
// as it was or as it is.
func call(t *testing.T, d *vellum.Disk, what string, do func()) {
	t.Helper()
	file, log, before := d.File(), d.Log(), telling(d)
	do()
	all := d.Log()
	if len(all) < len(log) || !slices.Equal(all[:len(log)], log) {
		t.Fatalf("P6: %s: the log has lost something", what)
	}
	all = all[len(log):]
	if len(all) > 0 && all[len(all)-1] != flush {
		t.Fatalf("P6: %s: the log does not end with a flush", what)
	}
	if !slices.Equal(oracle.Replay(file, all), d.File()) {
		t.Fatalf("P6: %s: the log leads to another file", what)
	}
	behind := telling(d)
	for cut := range oracle.Cuts(file, all) {
		if x, at, e := vellum.Open(cut); e != api.OK {
			t.Fatalf("P7: Open behind a cut in %s = %d, %d", what, at, e)
		} else if told := telling(x); told != before && told != behind {
			t.Fatalf("P7: a cut in %s leaves a disk that never was", what)
		}
	}
	if told, err := oracle.Sound(d.File()); err != nil || told != behind {
		t.Fatalf("P5: behind %s the file is not sound, or tells something else: %v", what, err)
	}
}

// repair: P8: the file is exact behind it, and tells what it told; once more is nothing.
func repair(t *testing.T, d *vellum.Disk) {
	t.Helper()
	before, clusters := telling(d), len(d.File())
	call(t, d, "Repair", d.Repair)
	if err := oracle.Exact(d.File()); err != nil {
		t.Errorf("P8: behind Repair the file is not exact: %v", err)
	}
	if telling(d) != before || len(d.File()) != clusters {
		t.Errorf("P8: Repair has changed what the file tells")
	}
	writes := len(d.Log())
	d.Repair()
	if len(d.Log()) != writes {
		t.Errorf("P8: Repair has written into an exact file")
	}
}

// callAny: one call at random, which may find no room.
func callAny(t *testing.T, r *rand.Rand, d *vellum.Disk, m *model) {
	t.Helper()
	before := m.Told
	call(t, d, "a call at random", func() {
		what, got, want := step(r, d, m, 6)
		if got == api.ErrFull {
			m.Told = before
		} else if got != want {
			t.Fatalf("P3, P4: %s = %d, want %d", what, got, want)
		}
	})
	if telling(d) != m.Told {
		t.Fatalf("P3, P4: behind a call the disk tells something else")
	}
}

// goesOn: opens a sound file; all calls hold on it as they are; once repaired, it stays exact.
func goesOn(t *testing.T, r *rand.Rand, f []api.Cluster) {
	t.Helper()
	d := open(t, f)
	if s := d.Check(); s != oracle.State(f) {
		t.Errorf("P8: Check() = %+v, want %+v", s, oracle.State(f))
	}
	m := &model{telling(d)}
	for range 2 {
		callAny(t, r, d, m)
	}
	repair(t, d)
	for range 2 {
		callAny(t, r, d, m)
		if err := oracle.Exact(d.File()); err != nil {
			t.Fatalf("P5: a repaired file is no longer exact: %v", err)
		}
	}
}

// TestCutAndOn: P7 and P8: each file that a cut may leave is opened, repaired
// and cut again, and others are gone on with as they are.
func TestCutAndOn(t *testing.T) {
	r := rand.New(rand.NewSource(17))
	for range 4 {
		d, m := vellum.New(), &model{}
		for range 40 {
			file, from, before := d.File(), len(d.Log()), m.Told
			what, _, _ := step(r, d, m, 12)
			for cut := range oracle.Cuts(file, d.Log()[from:]) {
				x := open(t, cut)
				if told := telling(x); told != before && told != m.Told {
					t.Fatalf("P7: a cut in %s leaves a disk that never was", what)
				}
				if s := x.Check(); s != oracle.State(cut) {
					t.Fatalf("P8: Check() = %+v, want %+v", s, oracle.State(cut))
				}
				if r.Intn(8) == 0 {
					goesOn(t, r, cut)
				}
			}
		}
	}
}
