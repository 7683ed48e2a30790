// Package oracle judges files for the tests. It goes by the document's words
// alone and takes nothing of the program but package api, so that an error of
// the program is not repeated here.
package oracle

import (
	"errors"
	"iter"
	"slices"
	"strconv"

	"vellum/api"
)

// Told is all that a file tells; two of them are compared by ==.
type Told struct {
	Disk     [api.Blocks]api.Cluster
	Names    [api.MaxPictures]string
	Pictures [api.MaxPictures][api.Blocks]api.Cluster
}

// Wrong is why a file is not sound.
type Wrong struct {
	At   int // the cluster that Open has to tell
	Text string
}

func (w Wrong) Error() string { return w.Text + ", by cluster " + strconv.Itoa(w.At) }

// told is a number of a second table or a block, once for each way that leads to it.
type told struct {
	in, cluster int // where it stands, and what it tells
	marked      bool
}

type judge struct {
	file  []api.Cluster
	told  Told
	kinds [api.MaxClusters]byte // 'f', 's' or 'b', as which a cluster is told
	used  [api.MaxClusters]int
	all   []told
}

// Sound reads a file that has to be sound, with noughts for what is missing at
// its end; if it is not sound, the error is a Wrong.
func Sound(file []api.Cluster) (Told, error) {
	j, err := judged(file)
	if err != nil {
		return Told{}, err
	}
	return j.told, nil
}

// Exact says what keeps a file from being exact.
func Exact(file []api.Cluster) error {
	j, err := judged(file)
	if err != nil {
		return err
	}
	if len(j.file) != len(file) {
		return errors.New("clusters are missing at the end")
	}
	for n := range j.file {
		if j.count(n) != j.used[n] {
			return errors.New("too high a count of cluster " + strconv.Itoa(n))
		}
	}
	for _, t := range j.all {
		if j.used[t.cluster] == 1 && !t.marked {
			return errors.New("no mark at the number of cluster " + strconv.Itoa(t.cluster))
		}
	}
	return nil
}

// State is what Check has to tell of a sound file.
func State(file []api.Cluster) api.State {
	j, err := judged(file)
	if err != nil {
		return api.State{}
	}
	s := api.State{Clusters: len(j.file)}
	for n := range j.file {
		if j.used[n] > 0 {
			s.Used++
		}
		if j.used[n] > 0 && j.count(n) > j.used[n] {
			s.Over++
		}
		if j.used[n] == 0 && j.count(n) > 0 {
			s.Lost++
		}
	}
	for _, t := range j.all {
		if j.used[t.cluster] == 1 && !t.marked {
			s.Unmarked++
		}
	}
	return s
}

func judged(file []api.Cluster) (*judge, error) {
	j := &judge{file: slices.Clone(file)}
	for _, step := range []func() error{j.head, j.list, j.tables, j.counts, j.marks} {
		if err := step(); err != nil {
			return nil, err
		}
	}
	return j, nil
}

func (j *judge) head() error {
	if len(j.file) < 6 || len(j.file) > api.MaxClusters {
		return Wrong{0, "too few or too many clusters"}
	}
	n := number(j.file[0], 4)
	if n < 7 || n > api.MaxClusters || n < len(j.file) {
		return Wrong{0, "a wrong number of clusters in the head"}
	}
	var plain api.Cluster
	copy(plain[:], "VELM")
	copy(plain[4:8], j.file[0][4:8])
	if j.file[0] != plain {
		return Wrong{0, "the head is not as it must be"}
	}
	for len(j.file) < n {
		j.file = append(j.file, api.Cluster{})
	}
	return nil
}

func (j *judge) list() error {
	ended := false
	for i := range api.MaxPictures {
		entry := [16]byte(j.file[5][16*i:])
		if entry == [16]byte{} {
			ended = true
			continue
		}
		name := entry[2:14]
		for len(name) > 0 && name[len(name)-1] == 0 {
			name = name[:len(name)-1]
		}
		other := func(c byte) bool { return c < 'a' || c > 'z' }
		if ended || number(j.file[5], 16*i) == 0 || entry[14] != 0 || entry[15] != 0 ||
			len(name) == 0 || slices.ContainsFunc(name, other) || slices.Contains(j.told.Names[:], string(name)) {
			return Wrong{5, "the list is not as it must be"}
		}
		j.told.Names[i] = string(name)
	}
	return nil
}

func (j *judge) tables() error {
	for n := range 6 {
		j.used[n] = 1
	}
	err := j.first(0, number(j.file[0], 6), &j.told.Disk)
	for i, name := range j.told.Names {
		if err == nil && name != "" {
			err = j.first(5, number(j.file[5], 16*i), &j.told.Pictures[i])
		}
	}
	return err
}

// first goes through a first table, the number of which stands in a cluster.
func (j *judge) first(in, n int, out *[api.Blocks]api.Cluster) error {
	if err := j.use(in, n, 'f'); err != nil {
		return err
	}
	if j.used[n] > 1 {
		return Wrong{in, "a first table is told twice"}
	}
	for i := range 32 {
		second, err := j.follow(n, i, 's')
		if err != nil {
			return err
		}
		if second != 0 && i > 1 {
			return Wrong{n, "too many numbers in a first table"}
		}
		for k := 0; second != 0 && k < 32; k++ {
			block, err := j.follow(second, k, 'b')
			if err != nil {
				return err
			}
			if block != 0 {
				out[32*i+k] = j.file[block]
			}
		}
	}
	return nil
}

// follow uses what the i-th number of a table tells, if it tells anything.
func (j *judge) follow(table, i int, kind byte) (int, error) {
	x := number(j.file[table], 2*i)
	if x == 0 {
		return 0, nil
	}
	n := x &^ api.Mark
	if err := j.use(table, n, kind); err != nil {
		return 0, err
	}
	j.all = append(j.all, told{table, n, x != n})
	return n, nil
}

func (j *judge) use(in, n int, kind byte) error {
	if n < 6 || n >= len(j.file) {
		return Wrong{in, "a number tells no cluster that may be told"}
	}
	if j.kinds[n] != 0 && j.kinds[n] != kind {
		return Wrong{in, "a cluster is told as two things"}
	}
	j.kinds[n] = kind
	j.used[n]++
	return nil
}

func (j *judge) count(n int) int { return int(j.file[1+n/64][n%64]) }

func (j *judge) counts() error {
	for n := range api.MaxClusters {
		c := j.count(n)
		if c < j.used[n] || c == 255 || n >= len(j.file) && c != 0 {
			return Wrong{n, "a wrong count"}
		}
	}
	return nil
}

func (j *judge) marks() error {
	for _, t := range j.all {
		if t.marked && (j.used[t.cluster] != 1 || j.count(t.cluster) != 1) {
			return Wrong{t.in, "a wrong mark"}
		}
	}
	return nil
}

// Replay does a log on a file.
func Replay(file []api.Cluster, log []api.Write) []api.Cluster {
	out := slices.Clone(file)
	for _, w := range log {
		out = done(out, w)
	}
	return out
}

func done(file []api.Cluster, w api.Write) []api.Cluster {
	if w.Cluster < 0 {
		return file
	}
	for len(file) <= w.Cluster {
		file = append(file, api.Cluster{})
	}
	file[w.Cluster] = w.Data
	return file
}

// Cuts goes through all files that a cut may leave, while the log is being done on a file.
func Cuts(file []api.Cluster, log []api.Write) iter.Seq[[]api.Cluster] {
	return func(yield func([]api.Cluster) bool) {
		for len(log) > 0 {
			part := log
			if end := slices.IndexFunc(log, isFlush); end >= 0 {
				part = log[:end+1]
			}
			writes := slices.DeleteFunc(slices.Clone(part), isFlush)
			for chosen := range 1 << len(writes) {
				if !yield(some(file, writes, chosen)) {
					return
				}
			}
			file = Replay(file, part)
			log = log[len(part):]
		}
		yield(slices.Clone(file))
	}
}

// some does those of the writes whose bits are set.
func some(file []api.Cluster, writes []api.Write, chosen int) []api.Cluster {
	out := slices.Clone(file)
	for i, w := range writes {
		if chosen>>i&1 == 1 {
			out = done(out, w)
		}
	}
	return out
}

func isFlush(w api.Write) bool { return w.Cluster == -1 }

func number(c api.Cluster, at int) int { return int(c[at])<<8 | int(c[at+1]) }
