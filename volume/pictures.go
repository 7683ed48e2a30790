package volume

import (
	"vellum/api"
	"vellum/layout"
)

// mostUses is the highest count that may be.
const mostUses = 254

// Take takes a picture of the disk. The list's entry is what makes it one.
func (v *Volume) Take(name string) api.Errno {
	if !isName(name) {
		return api.ErrName
	}
	list := v.list()
	if list.Find(name) >= 0 {
		return api.ErrKnown
	}
	if list.Len() == api.MaxPictures {
		return api.ErrFull
	}
	first, e := v.copyFirst(v.head().First)
	if e != api.OK {
		return e
	}
	v.putList(list.With(layout.Picture{Name: name, First: first}))
	v.file.Flush()
	return api.OK
}

// Return makes the disk what a picture is. The head is what makes the new first
// table the disk's.
func (v *Volume) Return(name string) api.Errno {
	i, e := v.entry(name)
	if e != api.OK {
		return e
	}
	first, e := v.copyFirst(v.list()[i].First)
	if e != api.OK {
		return e
	}
	h := v.head()
	old := h.First
	h.First = first
	v.putHead(h)
	v.file.Flush()
	v.letGo(v.held(old))
	return api.OK
}

// Drop takes a picture out of the list, then lets go what it held.
func (v *Volume) Drop(name string) api.Errno {
	i, e := v.entry(name)
	if e != api.OK {
		return e
	}
	list := v.list()
	v.putList(list.Without(i))
	v.file.Flush()
	v.letGo(v.held(list[i].First))
	return api.OK
}

// List is the names of the pictures.
func (v *Volume) List() []string {
	var names []string
	list := v.list()
	for _, p := range list[:list.Len()] {
		names = append(names, p.Name)
	}
	return names
}

// ReadOf tells what a block held in a picture.
func (v *Volume) ReadOf(name string, block int) (api.Cluster, api.Errno) {
	i, e := v.entry(name)
	if e != api.OK {
		return api.Cluster{}, e
	}
	return v.read(v.list()[i].First, block)
}

func isName(name string) bool {
	if len(name) < 1 || len(name) > api.MaxName {
		return false
	}
	for _, c := range []byte(name) {
		if c < 'a' || c > 'z' {
			return false
		}
	}
	return true
}

// entry is the place in the list of the picture of that name.
func (v *Volume) entry(name string) (int, api.Errno) {
	if !isName(name) {
		return 0, api.ErrName
	}
	i := v.list().Find(name)
	if i < 0 {
		return 0, api.ErrNone
	}
	return i, api.OK
}

// copyFirst puts a first table that tells what another one tells into a free
// cluster, and counts what both of them use from now on. The marks have to be
// gone ahead of that.
func (v *Volume) copyFirst(first int) (int, api.Errno) {
	fresh := v.lowestFree(1)
	counts, fits := v.shared(first)
	if len(fresh) < 1 || !fits {
		return 0, api.ErrFull
	}
	v.lengthen(fresh)
	v.renumber(first, layout.Number.Shared)
	v.file.Flush()
	counts[fresh[0]] = 1
	v.putCounts(counts)
	v.file.Put(fresh[0], v.file.At(first))
	v.file.Flush()
	return fresh[0], api.OK
}

// shared is the counts as they are when one more first table tells what this
// one tells; not, if one of them would be too high.
func (v *Volume) shared(first int) (layout.Counts, bool) {
	counts := v.counts()
	for s := range v.told(first) {
		n := s.number.Cluster()
		if counts[n] >= mostUses {
			return layout.Counts{}, false
		}
		counts[n]++
	}
	return counts, true
}
