package layout

import (
	"testing"

	"vellum/api"
)

func text(s string) api.Cluster {
	var c api.Cluster
	copy(c[:], s)
	return c
}

func TestHead(t *testing.T) {
	h := Head{Clusters: 256, First: 0x1234}
	want := text("VELM\x01\x00\x12\x34")
	if got := h.Cluster(); got != want {
		t.Errorf("head: %q", got)
	}
	if got := HeadOf(want); got != h {
		t.Errorf("head read: %+v", got)
	}
}

func TestNumber(t *testing.T) {
	for _, n := range []int{6, 7, 255} {
		if x := Own(n); !x.Marked() || x.Cluster() != n || int(x) != n+api.Mark {
			t.Errorf("Own(%d) = %x", n, x)
		}
		if x := Number(n); x.Marked() || x.Cluster() != n {
			t.Errorf("Number(%d) = %x", n, x)
		}
	}
}

func TestTable(t *testing.T) {
	var table Table
	table[0], table[1], table[31] = 7, Own(8), Own(255)
	want := text("\x00\x07\x80\x08")
	want[62], want[63] = 0x80, 0xff
	if got := table.Cluster(); got != want {
		t.Errorf("table: %q", got)
	}
	if got := TableOf(want); got != table {
		t.Errorf("table read: %v", got)
	}
}

func TestCounts(t *testing.T) {
	var counts, again Counts
	for n := range counts {
		counts[n] = byte(n ^ 5)
	}
	for part := range CountParts {
		c := counts.Part(part)
		if c[3] != byte((64*part+3)^5) {
			t.Errorf("part %d: %q", part, c)
		}
		again.SetPart(part, c)
	}
	if again != counts {
		t.Errorf("counts read: %v", again)
	}
}

func TestPictureFirst(t *testing.T) {
	list := text("\x00\x09name")
	copy(list[48:], "\x01\x02other")
	for i, want := range []int{9, 0, 0, 0x102} {
		if got := PictureFirst(list, i); got != want {
			t.Errorf("entry %d: %d", i, got)
		}
	}
}
