package volume

import (
	"vellum/api"
	"vellum/layout"
)

// Write makes a block of the disk hold data.
func (v *Volume) Write(block int, data api.Cluster) api.Errno {
	if !isBlock(block) {
		return api.ErrNumber
	}
	p := v.find(v.head().First, block)
	if !p.second.Marked() {
		return v.writeNewTable(p, data)
	}
	if !p.block.Marked() {
		return v.writeNewBlock(p, data)
	}
	v.file.Put(p.block.Cluster(), data)
	v.file.Flush()
	return api.OK
}

// writeNewBlock puts the data into a cluster of its own; the second table is
// the disk's alone and is changed in place.
func (v *Volume) writeNewBlock(p place, data api.Cluster) api.Errno {
	fresh := v.lowestFree(1)
	if len(fresh) < 1 {
		return api.ErrFull
	}
	block := fresh[0]
	v.claim(fresh)
	v.file.Put(block, data)
	v.file.Flush()
	v.putNumber(p.second.Cluster(), p.inSecond, layout.Own(block))
	v.file.Flush()
	v.letGo(clusters(p.block))
	return api.OK
}

// writeNewTable puts the data and a copy of the second table into clusters of
// their own. The blocks that the copy tells too need no change of their counts:
// the one write into the first table takes a use from them and gives them one.
func (v *Volume) writeNewTable(p place, data api.Cluster) api.Errno {
	fresh := v.lowestFree(2)
	if len(fresh) < 2 {
		return api.ErrFull
	}
	second, block := fresh[0], fresh[1]
	table := p.secondTable
	table[p.inSecond] = layout.Own(block)
	v.claim(fresh)
	v.file.Put(second, table.Cluster())
	v.file.Put(block, data)
	v.file.Flush()
	v.putNumber(p.first, p.inFirst, layout.Own(second))
	v.file.Flush()
	v.letGo(clusters(p.second, p.block))
	return api.OK
}
