package layout

import (
	"testing"

	"vellum/api"
)

func text(s string) api.Cluster {
	var c api.Cluster
	copy(c[:], s)
	return c
}

func TestHead(t *testing.T) {
	h := Head{Clusters: 256, First: 0x1234}
	want := text("VELM\x01\x00\x12\x34")
	if got := h.Cluster(); got != want {
		t.Errorf("head: %q", got)
	}
	if got := HeadOf(want); got != h {
		t.Errorf("head read: %+v", got)
	}
}

func TestNumber(t *testing.T) {
	for _, n := range []int{6, 7, 255} {
		if x := Own(n); !x.Marked() || x.Cluster() != n || int(x) != n+api.Mark {
			t.Errorf("Own(%d) = %x", n, x)
		}
		if x := Number(n); x.Marked() || x.Cluster() != n || x.Shared() != x || Own(n).Shared() != x {
			t.Errorf("Number(%d) = %x", n, x)
		}
	}
}

func TestTable(t *testing.T) {
	var table Table
	table[0], table[1], table[31] = 7, Own(8), Own(255)
	want := text("\x00\x07\x80\x08")
	want[62], want[63] = 0x80, 0xff
	if got := table.Cluster(); got != want {
		t.Errorf("table: %q", got)
	}
	if got := TableOf(want); got != table {
		t.Errorf("table read: %v", got)
	}
}

func TestCounts(t *testing.T) {
	var counts, again Counts
	for n := range counts {
		counts[n] = byte(n ^ 5)
	}
	for part := range CountParts {
		c := counts.Part(part)
		if c[3] != byte((64*part+3)^5) {
			t.Errorf("part %d: %q", part, c)
		}
		again.SetPart(part, c)
	}
	if again != counts {
		t.Errorf("counts read: %v", again)
	}
}

func TestList(t *testing.T) {
	var list List
	for i, p := range []Picture{{"a", 9}, {"twelveletter", 255}, {"bc", 6}, {"d", 0x102}} {
		if list.Len() != i || list.Find(p.Name) != -1 {
			t.Errorf("of %d pictures: Len() = %d, Find(%s) = %d", i, list.Len(), p.Name, list.Find(p.Name))
		}
		list = list.With(p)
		if list.Find(p.Name) != i {
			t.Errorf("Find(%s) = %d", p.Name, list.Find(p.Name))
		}
	}
	want := text("\x00\x09a")
	copy(want[16:], "\x00\xfftwelveletter")
	copy(want[32:], "\x00\x06bc")
	copy(want[48:], "\x01\x02d")
	if got := list.Cluster(); got != want {
		t.Errorf("list: %q", got)
	}
	if got := ListOf(want); got != list {
		t.Errorf("list read: %v", got)
	}
	if list.Len() != 4 || list.Find("") != -1 {
		t.Errorf("Len() = %d, Find() = %d", list.Len(), list.Find(""))
	}
}

func TestListWithout(t *testing.T) {
	all := List{{"a", 6}, {"b", 7}, {"c", 8}, {"d", 9}}
	for i, want := range []List{
		{{"b", 7}, {"c", 8}, {"d", 9}},
		{{"a", 6}, {"c", 8}, {"d", 9}},
		{{"a", 6}, {"b", 7}, {"d", 9}},
		{{"a", 6}, {"b", 7}, {"c", 8}},
	} {
		if got := all.Without(i); got != want || got.Len() != 3 {
			t.Errorf("without the one at %d: %v", i, got)
		}
	}
	if all.Len() != 4 {
		t.Error("the list itself has changed")
	}
}

// TestListOfAny: any bytes can be read; what an entry has no room for is not written.
func TestListOfAny(t *testing.T) {
	var c api.Cluster
	for i := range c {
		c[i] = 'z'
	}
	list := ListOf(c)
	if list.Len() != 4 || list[3] != (Picture{"zzzzzzzzzzzz", 0x7a7a}) {
		t.Errorf("list read: %v", list)
	}
	for i := range list {
		c[16*i+14], c[16*i+15] = 0, 0
	}
	if got := list.Cluster(); got != c {
		t.Errorf("list: %q", got)
	}
}
