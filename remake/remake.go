// Package remake: a heap of objects whose classes change while it is in use: see DOC.md.
package remake

import (
	"remake/api"
	"remake/classes"
	"remake/packing"
	"remake/updates"
)

// Check tells whether a text is a schema (P3).
func Check(schema string) (api.Errno, int) {
	_, e, place := classes.Read(schema)
	return e, place
}

// Fits tells whether a text is an update to a schema (P4).
func Fits(schema string, update string) (api.Errno, int) {
	old, e, place := classes.Read(schema)
	if e != api.OK {
		return e, place
	}
	_, e, place = updates.Read(old, update)
	return e, place
}

// Pack writes a text as bytes with a check (P5).
func Pack(update string) (string, api.Errno) {
	return packing.Pack(update)
}

// Unpack reads it (P5).
func Unpack(code string) (string, api.Errno) {
	return packing.Unpack(code)
}

// New makes a heap (P6).
func New(schema string, size int) (*Heap, api.Errno) {
	s, e, _ := classes.Read(schema)
	if e != api.OK {
		return nil, e
	}
	if size < 1 || size > api.MaxSize {
		return nil, api.ErrSize
	}
	return &Heap{schema: s, size: size}, api.OK
}

// Make makes an object (P7).
func (h *Heap) Make(root int, class byte) api.Errno {
	if !isRoot(root) {
		return api.ErrRoot
	}
	c, known := h.schema.Find(class)
	if !known {
		return api.ErrClass
	}
	there := h.reached()
	words := h.wordsOf(there.list)
	if words+c.Words() > h.size {
		return api.ErrFull
	}
	number := there.free()
	h.objects[number] = object{class: class}
	h.roots[root] = number
	return api.OK
}

// Class tells an object's class (P8).
func (h *Heap) Class(root int) (byte, api.Errno) {
	number, e := h.held(root)
	if e != api.OK {
		return 0, e
	}
	return h.objects[number].class, api.OK
}

// Get tells a number (P8).
func (h *Heap) Get(root int, field byte) (int64, api.Errno) {
	s, _, e := h.findNumber(root, field)
	if e != api.OK {
		return 0, e
	}
	return h.objects[s.number].numbers[s.index], api.OK
}

// Put writes a number (P8).
func (h *Heap) Put(root int, field byte, value int64) api.Errno {
	s, kind, e := h.findNumber(root, field)
	if e != api.OK {
		return e
	}
	h.objects[s.number].numbers[s.index] = classes.Wrap(kind, value)
	return api.OK
}

// Follow goes along a reference (P9).
func (h *Heap) Follow(root int, field byte, to int) api.Errno {
	s, e := h.findRef(root, field, to)
	if e != api.OK {
		return e
	}
	h.roots[to] = h.objects[s.number].refs[s.index]
	return api.OK
}

// Link sets a reference (P9).
func (h *Heap) Link(root int, field byte, from int) api.Errno {
	s, e := h.findRef(root, field, from)
	if e != api.OK {
		return e
	}
	h.objects[s.number].refs[s.index] = h.roots[from]
	return api.OK
}

// Copy lets a root hold what another holds (P10).
func (h *Heap) Copy(root int, to int) api.Errno {
	if !isRoot(root) || !isRoot(to) {
		return api.ErrRoot
	}
	h.roots[to] = h.roots[root]
	return api.OK
}

// Clear lets a root hold none (P10).
func (h *Heap) Clear(root int) api.Errno {
	if !isRoot(root) {
		return api.ErrRoot
	}
	h.roots[root] = none
	return api.OK
}

// Same tells whether two roots hold the same (P10).
func (h *Heap) Same(root int, other int) (bool, api.Errno) {
	if !isRoot(root) || !isRoot(other) {
		return false, api.ErrRoot
	}
	return h.roots[root] == h.roots[other], api.OK
}

// Words tells the words of what is there (P11).
func (h *Heap) Words() int {
	there := h.reached()
	return h.wordsOf(there.list)
}

// Begin begins an update (P12).
func (h *Heap) Begin(update string) (api.Errno, int) {
	if h.pending {
		return api.ErrBusy, 0
	}
	u, e, place := updates.Read(h.schema, update)
	if e != api.OK {
		return e, place
	}
	h.pending = true
	h.update = u
	return api.OK, 0
}

// Step goes on with it (P13). Every object is remade of what it holds in the
// end, so there is nothing to do ahead of that: the first Step finds it ready.
func (h *Heap) Step(budget int) (bool, api.Errno) {
	if !h.pending {
		return false, api.ErrIdle
	}
	if budget < 1 {
		return false, api.ErrBudget
	}
	h.ready = true
	return true, api.OK
}

// Peek tells what a number becomes (P15).
func (h *Heap) Peek(root int, field byte) (int64, api.Errno) {
	if !h.pending {
		return 0, api.ErrIdle
	}
	number, e := h.held(root)
	if e != api.OK {
		return 0, e
	}
	making, known := h.update.Find(h.objects[number].class)
	if !known {
		return 0, api.ErrClass
	}
	return making.Number(field, h.objects[number].numbers)
}

// Commit ends it: all is remade (P14).
func (h *Heap) Commit() api.Errno {
	if !h.pending {
		return api.ErrIdle
	}
	if !h.ready {
		return api.ErrEarly
	}
	next, e := h.remade()
	if e != api.OK {
		h.end()
		return e
	}
	*h = next
	return api.OK
}

// Abort ends it: nothing is (P15).
func (h *Heap) Abort() api.Errno {
	if !h.pending {
		return api.ErrIdle
	}
	h.end()
	return api.OK
}
