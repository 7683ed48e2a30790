package volume

import (
	"errors"
	"strings"
	"testing"

	"vellum/api"
)

// TestFault: the ways: what is wrong with a file tells its cluster and wraps what it is.
func TestFault(t *testing.T) {
	for name, c := range map[string]struct {
		change func(f []api.Cluster) []api.Cluster
		at     int
		what   error
	}{
		"no clusters":       {func(f []api.Cluster) []api.Cluster { return nil }, 0, errLength},
		"too many clusters": {func(f []api.Cluster) []api.Cluster { return append(f, f[8]) }, 0, errLength},
		"head":              {func(f []api.Cluster) []api.Cluster { f[0][0] = 'v'; return f }, 0, errHead},
		"list":              {func(f []api.Cluster) []api.Cluster { f[5][63] = 1; return f }, 5, errList},
		"first table":       {func(f []api.Cluster) []api.Cluster { f[0][7] = 9; return f }, 0, errNowhere},
		"block":             {func(f []api.Cluster) []api.Cluster { f[7][1] = 5; return f }, 7, errNowhere},
		"block as a table":  {func(f []api.Cluster) []api.Cluster { f[6][3] = 8; return f }, 6, errTwice},
		"third number":      {func(f []api.Cluster) []api.Cluster { f[6][5] = 7; return f }, 6, errBehind},
		"count":             {func(f []api.Cluster) []api.Cluster { f[1][8] = 0; return f }, 8, errCount},
		"mark":              {func(f []api.Cluster) []api.Cluster { f[1][8] = 2; return f }, 7, errMark},
	} {
		v, err := Open(c.change(begun(t, 0)))
		var f Fault
		if v != nil || !errors.As(err, &f) || f.Cluster != c.at || !errors.Is(err, c.what) {
			t.Errorf("P8: %s: Open = %v, %v", name, v, err)
			continue
		}
		if text := err.Error(); !strings.Contains(text, c.what.Error()) || !strings.HasPrefix(text, "cluster ") {
			t.Errorf("%s: the error says %q", name, text)
		}
	}
}

// repaired: P8 and P7: Repair changes nothing that the file tells, at no cut.
func repaired(t *testing.T, v *Volume) {
	t.Helper()
	repair := func() api.Errno { v.Repair(); return api.OK }
	if more := made(t, v, "Repair", repair, sound(t, v.File())); more != 0 {
		t.Errorf("P8: Repair has made the file %d longer", more)
	}
	exact(t, v)
	refused(t, v, "Repair once more", repair, api.OK)
}

// TestRepairAtEveryCut: counts too high in every part, places that are lost, marks that are missing.
func TestRepairAtEveryCut(t *testing.T) {
	f := filled(pictured(begun(t, 0, 1, 31, 32, 63), 0, "a"), 20)
	f[1][0], f[1][5], f[1][6], f[1][8] = 2, 254, 3, 99
	repaired(t, opened(t, f))
	v := opened(t, f)
	written(t, v, 0, text("own"))
	dropped(t, v, "a")
	repaired(t, v)
	for _, n := range []int{0, 40, 1, 31} {
		written(t, v, n, text("behind"))
		exact(t, v)
	}
}

// TestRepairedRoom: what was lost is free again.
func TestRepairedRoom(t *testing.T) {
	v := opened(t, filled(begun(t, 0), 0))
	refused(t, v, "Write", func() api.Errno { return v.Write(1, text("x")) }, api.ErrFull)
	repaired(t, v)
	for n := range api.Blocks {
		written(t, v, n, text("x"))
	}
	exact(t, v)
}
