// Package oracle judges files for the tests. It goes by the document's words
// alone and takes nothing of the program but package api, so that an error of
// the program is not repeated here.
package oracle

import (
	"errors"
	"iter"
	"slices"
	"strconv"

	"vellum/api"
)

// Told is all that a file tells; two of them are compared by ==.
type Told struct {
	Disk     [api.Blocks]api.Cluster
	Names    [api.MaxPictures]string
	Pictures [api.MaxPictures][api.Blocks]api.Cluster
}

// told is a number of a second table or a block, once for each way that leads to it.
type told struct {
	cluster int
	marked  bool
}

type judge struct {
	file  []api.Cluster
	told  Told
	kinds [api.MaxClusters]byte // 'f', 's' or 'b', as which a cluster is told
	used  [api.MaxClusters]int
	all   []told
}

// Sound reads a file that has to be sound, with noughts for what is missing at its end.
func Sound(file []api.Cluster) (Told, error) {
	j, err := judged(file)
	if err != nil {
		return Told{}, err
	}
	return j.told, nil
}

// Exact says what keeps a file from being exact.
func Exact(file []api.Cluster) error {
	j, err := judged(file)
	if err != nil {
		return err
	}
	if len(j.file) != len(file) {
		return fault("clusters are missing, at", len(file))
	}
	for n := range j.file {
		if j.count(n) != j.used[n] {
			return fault("too high a count of cluster", n)
		}
	}
	for _, t := range j.all {
		if j.used[t.cluster] == 1 && !t.marked {
			return fault("no mark at the number of cluster", t.cluster)
		}
	}
	return nil
}

func judged(file []api.Cluster) (*judge, error) {
	j := &judge{file: slices.Clone(file)}
	for _, step := range []func() error{j.head, j.list, j.tables, j.counts, j.marks} {
		if err := step(); err != nil {
			return nil, err
		}
	}
	return j, nil
}

func (j *judge) head() error {
	if len(j.file) < 6 || len(j.file) > api.MaxClusters {
		return fault("clusters in all:", len(j.file))
	}
	n := number(j.file[0], 4)
	if n < 7 || n > api.MaxClusters || n < len(j.file) {
		return fault("clusters by the head:", n)
	}
	var plain api.Cluster
	copy(plain[:], "VELM")
	copy(plain[4:8], j.file[0][4:8])
	if j.file[0] != plain {
		return errors.New("the head is not as it must be")
	}
	for len(j.file) < n {
		j.file = append(j.file, api.Cluster{})
	}
	return nil
}

func (j *judge) list() error {
	ended := false
	for i := range api.MaxPictures {
		entry := [16]byte(j.file[5][16*i:])
		if entry == [16]byte{} {
			ended = true
			continue
		}
		name := entry[2:14]
		for len(name) > 0 && name[len(name)-1] == 0 {
			name = name[:len(name)-1]
		}
		other := func(c byte) bool { return c < 'a' || c > 'z' }
		if ended || number(j.file[5], 16*i) == 0 || entry[14] != 0 || entry[15] != 0 ||
			len(name) == 0 || slices.ContainsFunc(name, other) || slices.Contains(j.told.Names[:], string(name)) {
			return fault("the list is not as it must be in entry", i)
		}
		j.told.Names[i] = string(name)
	}
	return nil
}

func (j *judge) tables() error {
	for n := range 6 {
		j.used[n] = 1
	}
	err := j.first(number(j.file[0], 6), &j.told.Disk)
	for i, name := range j.told.Names {
		if err == nil && name != "" {
			err = j.first(number(j.file[5], 16*i), &j.told.Pictures[i])
		}
	}
	return err
}

func (j *judge) first(n int, out *[api.Blocks]api.Cluster) error {
	if err := j.use(n, 'f'); err != nil {
		return err
	}
	if j.used[n] > 1 {
		return fault("told twice: the first table", n)
	}
	for i := range 32 {
		second, err := j.follow(j.file[n], i, 's')
		if err != nil {
			return err
		}
		if second != 0 && i > 1 {
			return fault("too many numbers in the first table", n)
		}
		for k := 0; second != 0 && k < 32; k++ {
			block, err := j.follow(j.file[second], k, 'b')
			if err != nil {
				return err
			}
			if block != 0 {
				out[32*i+k] = j.file[block]
			}
		}
	}
	return nil
}

// follow uses what the i-th number of a table tells, if it tells anything.
func (j *judge) follow(table api.Cluster, i int, kind byte) (int, error) {
	x := number(table, 2*i)
	if x == 0 {
		return 0, nil
	}
	n := x &^ api.Mark
	if err := j.use(n, kind); err != nil {
		return 0, err
	}
	j.all = append(j.all, told{n, x != n})
	return n, nil
}

func (j *judge) use(n int, kind byte) error {
	if n < 6 || n >= len(j.file) {
		return fault("told, but not to be told: cluster", n)
	}
	if j.kinds[n] != 0 && j.kinds[n] != kind {
		return fault("told as two things: cluster", n)
	}
	j.kinds[n] = kind
	j.used[n]++
	return nil
}

func (j *judge) count(n int) int { return int(j.file[1+n/64][n%64]) }

func (j *judge) counts() error {
	for n := range api.MaxClusters {
		c := j.count(n)
		if c < j.used[n] || c == 255 || n >= len(j.file) && c != 0 {
			return fault("a wrong count of cluster", n)
		}
	}
	return nil
}

func (j *judge) marks() error {
	for _, t := range j.all {
		if t.marked && (j.used[t.cluster] != 1 || j.count(t.cluster) != 1) {
			return fault("a wrong mark at the number of cluster", t.cluster)
		}
	}
	return nil
}

// Replay does a log on a file.
func Replay(file []api.Cluster, log []api.Write) []api.Cluster {
	out := slices.Clone(file)
	for _, w := range log {
		out = done(out, w)
	}
	return out
}

func done(file []api.Cluster, w api.Write) []api.Cluster {
	if w.Cluster < 0 {
		return file
	}
	for len(file) <= w.Cluster {
		file = append(file, api.Cluster{})
	}
	file[w.Cluster] = w.Data
	return file
}

// Cuts goes through all files that a cut may leave, while the log is being done on a file.
func Cuts(file []api.Cluster, log []api.Write) iter.Seq[[]api.Cluster] {
	return func(yield func([]api.Cluster) bool) {
		for len(log) > 0 {
			part := log
			if end := slices.IndexFunc(log, isFlush); end >= 0 {
				part = log[:end+1]
			}
			writes := slices.DeleteFunc(slices.Clone(part), isFlush)
			for chosen := range 1 << len(writes) {
				if !yield(some(file, writes, chosen)) {
					return
				}
			}
			file = Replay(file, part)
			log = log[len(part):]
		}
		yield(slices.Clone(file))
	}
}

// some does those of the writes whose bits are set.
func some(file []api.Cluster, writes []api.Write, chosen int) []api.Cluster {
	out := slices.Clone(file)
	for i, w := range writes {
		if chosen>>i&1 == 1 {
			out = done(out, w)
		}
	}
	return out
}

func isFlush(w api.Write) bool { return w.Cluster == -1 }

func number(c api.Cluster, at int) int { return int(c[at])<<8 | int(c[at+1]) }

func fault(text string, n int) error {
	return errors.New(text + " " + strconv.Itoa(n))
}
