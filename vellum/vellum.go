// Package vellum: a disk in a file, and pictures of it, that no cut spoils: see DOC.md.
package vellum

import (
	"vellum/api"
	"vellum/volume"
)

// Disk is one, with its file.
type Disk struct {
	inner *volume.Volume
}

// made says whether New or Open made the disk: any other has no file, and what
// needs one answers ErrForm.
func (d *Disk) made() bool { return d != nil && d.inner != nil }

// New makes a disk (P3).
func New() *Disk { return &Disk{inner: volume.New()} }

// Open finds one in a file (P8).
func Open(file []api.Cluster) (*Disk, int, api.Errno) { return nil, 0, api.OK }

// Read tells a block (P3).
func (d *Disk) Read(block int) (api.Cluster, api.Errno) {
	if !d.made() {
		return api.Cluster{}, api.ErrForm
	}
	return d.inner.Read(block)
}

// Write writes one (P3).
func (d *Disk) Write(block int, data api.Cluster) api.Errno {
	if !d.made() {
		return api.ErrForm
	}
	return d.inner.Write(block, data)
}

// Take takes a picture (P4).
func (d *Disk) Take(name string) api.Errno {
	if !d.made() {
		return api.ErrForm
	}
	return d.inner.Take(name)
}

// Return makes the disk what a picture is (P4).
func (d *Disk) Return(name string) api.Errno {
	if !d.made() {
		return api.ErrForm
	}
	return d.inner.Return(name)
}

// Drop drops a picture (P4).
func (d *Disk) Drop(name string) api.Errno {
	if !d.made() {
		return api.ErrForm
	}
	return d.inner.Drop(name)
}

// List tells the pictures (P4).
func (d *Disk) List() []string {
	if !d.made() {
		return nil
	}
	return d.inner.List()
}

// ReadOf tells a picture's block (P4).
func (d *Disk) ReadOf(name string, block int) (api.Cluster, api.Errno) {
	if !d.made() {
		return api.Cluster{}, api.ErrForm
	}
	return d.inner.ReadOf(name, block)
}

// File tells the file (P5).
func (d *Disk) File() []api.Cluster {
	if !d.made() {
		return nil
	}
	return d.inner.File()
}

// Log tells what was written into it (P6).
func (d *Disk) Log() []api.Write {
	if !d.made() {
		return nil
	}
	return d.inner.Log()
}

// Check tells how it stands (P8).
func (d *Disk) Check() api.State { return api.State{} }

// Repair makes it exact (P8).
func (d *Disk) Repair() {}
