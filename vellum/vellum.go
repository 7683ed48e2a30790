// Package vellum: a disk in a file, and pictures of it, that no cut spoils: see DOC.md.
package vellum

import (
	"errors"

	"vellum/api"
	"vellum/volume"
)

// Disk is one, with its file.
type Disk struct {
	inner *volume.Volume
}

// made says whether New or Open made the disk: any other has no file, and what
// needs one answers ErrForm.
func (d *Disk) made() bool { return d != nil && d.inner != nil }

// New makes a disk (P3).
func New() *Disk { return &Disk{inner: volume.New()} }

// Open finds one in a file (P8).
func Open(file []api.Cluster) (*Disk, int, api.Errno) {
	inner, err := volume.Open(file)
	if err != nil {
		return nil, faulty(err), api.ErrForm
	}
	return &Disk{inner: inner}, 0, api.OK
}

// faulty is the cluster that an error tells.
func faulty(err error) int {
	var f volume.Fault
	if errors.As(err, &f) {
		return f.Cluster
	}
	return 0
}

// Read tells a block (P3).
func (d *Disk) Read(block int) (api.Cluster, api.Errno) {
	if !d.made() {
		return api.Cluster{}, api.ErrForm
	}
	return d.inner.Read(block)
}

// Write writes one (P3).
func (d *Disk) Write(block int, data api.Cluster) api.Errno {
	if !d.made() {
		return api.ErrForm
	}
	return d.inner.Write(block, data)
}

// Take takes a picture (P4).
func (d *Disk) Take(name string) api.Errno {
	if !d.made() {
		return api.ErrForm
	}
	return d.inner.Take(name)
}

// Return makes the disk what a picture is (P4).
func (d *Disk) Return(name string) api.Errno {
	if !d.made() {
		return api.ErrForm
	}
	return d.inner.Return(name)
}

// Drop drops a picture (P4).
func (d *Disk) Drop(name string) api.Errno {
	if !d.made() {
		return api.ErrForm
	}
	return d.inner.Drop(name)
}

// List tells the pictures (P4).
func (d *Disk) List() []string {
	if !d.made() {
		return nil
	}
	return d.inner.List()
}

// ReadOf tells a picture's block (P4).
func (d *Disk) ReadOf(name string, block int) (api.Cluster, api.Errno) {
	if !d.made() {
		return api.Cluster{}, api.ErrForm
	}
	return d.inner.ReadOf(name, block)
}

// File tells the file (P5).
func (d *Disk) File() []api.Cluster {
	if !d.made() {
		return nil
	}
	return d.inner.File()
}

// Log tells what was written into it (P6).
func (d *Disk) Log() []api.Write {
	if !d.made() {
		return nil
	}
	return d.inner.Log()
}

// Check tells how it stands (P8).
func (d *Disk) Check() api.State {
	if !d.made() {
		return api.State{}
	}
	return d.inner.Check()
}

// Repair makes it exact (P8).
func (d *Disk) Repair() {
	if d.made() {
		d.inner.Repair()
	}
}
