package oracle

import (
	"errors"
	"slices"
	"testing"

	"vellum/api"
)

// shared: a sound and exact file: a disk and a picture of it that share block
// 0, and block 33 that is the picture's alone.
func shared() []api.Cluster {
	f := make([]api.Cluster, 12)
	copy(f[0][:], "VELM\x00\x0c\x00\x06")
	copy(f[1][:], "\x01\x01\x01\x01\x01\x01\x01\x02\x02\x01\x01\x01")
	f[1][6] = 1
	copy(f[5][:], "\x00\x09name")
	copy(f[6][:], "\x00\x07")
	copy(f[7][:], "\x00\x08")
	copy(f[8][:], "zero")
	copy(f[9][:], "\x00\x07\x80\x0a")
	copy(f[10][:], "\x00\x00\x80\x0b")
	copy(f[11][:], "thirty-three")
	return f
}

func TestSoundAndExact(t *testing.T) {
	f := shared()
	told, err := Sound(f)
	if err != nil {
		t.Fatal(err)
	}
	if err := Exact(f); err != nil {
		t.Fatal(err)
	}
	var want Told
	copy(want.Disk[0][:], "zero")
	want.Names[0] = "name"
	want.Pictures[0] = want.Disk
	copy(want.Pictures[0][33][:], "thirty-three")
	if told != want {
		t.Error("the file tells another disk")
	}
}

// set: the same file with bytes set in a cluster.
func set(f []api.Cluster, n, at int, bytes string) []api.Cluster {
	g := slices.Clone(f)
	copy(g[n][at:], bytes)
	return g
}

func TestNotSound(t *testing.T) {
	f := shared()
	for name, c := range map[string]struct {
		file []api.Cluster
		at   int
	}{
		"no clusters":            {nil, 0},
		"too few":                {f[:5], 0},
		"more than the head has": {append(slices.Clone(f), api.Cluster{}), 0},
		"magic":                  {set(f, 0, 0, "v"), 0},
		"head's end":             {set(f, 0, 63, "x"), 0},
		"head tells 257":         {set(f, 0, 4, "\x01\x01"), 0},
		"disk's table low":       {set(f, 0, 6, "\x00\x05"), 0},
		"disk's table marked":    {set(f, 0, 6, "\x80\x06"), 0},
		"disk's table twice":     {set(f, 0, 6, "\x00\x09"), 5},
		"name":                   {set(f, 5, 2, "N"), 5},
		"name with a gap":        {set(f, 5, 3, "\x00"), 5},
		"entry's end":            {set(f, 5, 15, "x"), 5},
		"entry behind a gap":     {set(f, 5, 32, "\x00\x0bother"), 5},
		"name twice":             {set(f, 5, 16, "\x00\x0bname"), 5},
		"third number":           {set(f, 6, 4, "\x00\x07"), 6},
		"number behind the end":  {set(f, 6, 2, "\x00\x0c"), 6},
		"block as a table":       {set(f, 6, 2, "\x00\x08"), 6},
		"block as its table":     {set(f, 10, 0, "\x00\x0a"), 10},
		"count too low":          {set(f, 1, 8, "\x01"), 8},
		"count of 255":           {set(f, 1, 8, "\xff"), 8},
		"count of what is not":   {set(f, 4, 63, "\x01"), 255},
		"mark of a shared table": {set(f, 6, 0, "\x80"), 6},
		"mark of a count of two": {set(f, 1, 11, "\x02"), 10},
	} {
		var w Wrong
		if _, err := Sound(c.file); !errors.As(err, &w) || w.At != c.at {
			t.Errorf("%s: %v", name, err)
		}
	}
}

func TestState(t *testing.T) {
	f := shared()
	if s := State(f); s != (api.State{Clusters: 12, Used: 12}) {
		t.Errorf("%+v", s)
	}
	f = set(set(set(f, 10, 2, "\x00"), 1, 0, "\x05\x03"), 9, 2, "\x00")
	if s := State(f); s != (api.State{Clusters: 12, Used: 12, Over: 2, Unmarked: 2}) {
		t.Errorf("%+v", s)
	}
	if s := State(set(f, 9, 2, "\x00\x00")); s != (api.State{Clusters: 12, Used: 10, Over: 2, Lost: 2}) {
		t.Errorf("%+v", s)
	}
}

func TestNotExact(t *testing.T) {
	f := shared()
	for name, g := range map[string][]api.Cluster{
		"count too high": set(f, 1, 8, "\x03"),
		"no mark":        set(f, 10, 2, "\x00"),
		"short":          f[:11],
	} {
		if _, err := Sound(g); err != nil {
			t.Errorf("%s: %v", name, err)
		}
		if Exact(g) == nil {
			t.Errorf("%s: exact", name)
		}
	}
}

func TestCuts(t *testing.T) {
	a, b, c := api.Cluster{'a'}, api.Cluster{'b'}, api.Cluster{'c'}
	log := []api.Write{{Cluster: 0, Data: a}, {Cluster: 2, Data: b}, {Cluster: -1}, {Cluster: 1, Data: c}}
	want := [][]api.Cluster{
		nil, {a}, {{}, {}, b}, {a, {}, b},
		{a, {}, b}, {a, c, b},
		{a, c, b},
	}
	got := slices.Collect(Cuts(nil, log))
	if !slices.EqualFunc(got, want, slices.Equal[[]api.Cluster]) {
		t.Errorf("cuts: %q", got)
	}
}
