package remake

import (
	"remake/api"
	"remake/classes"
	"remake/updates"
)

// none is what a root or a reference holds instead of an object's number. It
// is 0, so that the references of a new object are none without more ado.
const none = 0

// object: its class, and what its fields hold, at their places in the class.
// A reference stands in refs, where all other places are none.
type object struct {
	class   byte
	numbers [api.MaxFields]int64
	refs    [api.MaxFields]int
}

// Heap: objects, and the roots that hold some. An object's number is its
// place in objects; one that is not there any more leaves its place to a new one.
type Heap struct {
	schema  classes.Schema
	size    int
	roots   [api.MaxRoots]int
	objects [api.MaxSize + 1]object
	pending bool
	ready   bool           // a Step has answered so
	update  updates.Update // the one that is pending
}

// end: the pending update is over.
func (h *Heap) end() {
	h.pending = false
	h.ready = false
	h.update = updates.Update{}
}

func isRoot(root int) bool {
	return root >= 0 && root < api.MaxRoots
}

// held tells the number of a root's object.
func (h *Heap) held(root int) (int, api.Errno) {
	if !isRoot(root) {
		return none, api.ErrRoot
	}
	number := h.roots[root]
	if number == none {
		return none, api.ErrNil
	}
	return number, api.OK
}

// classOf tells the class of an object.
func (h *Heap) classOf(number int) classes.Class {
	if number < 0 || number >= len(h.objects) {
		return classes.Class{}
	}
	class, _ := h.schema.Find(h.objects[number].class)
	return class
}

// spot: where a field stands: its object's number, and its place in the class.
type spot struct {
	number int
	index  int
}

// findNumber finds the field of a root's object, which is to be of a kind of number.
func (h *Heap) findNumber(root int, letter byte) (spot, byte, api.Errno) {
	s, kind, e := h.findField(root, letter)
	if e != api.OK {
		return spot{}, 0, e
	}
	if kind == api.Ref {
		return spot{}, 0, api.ErrKind
	}
	return s, kind, api.OK
}

// findRef finds the field of a root's object, which is to be a reference; other is a root too.
func (h *Heap) findRef(root int, letter byte, other int) (spot, api.Errno) {
	if !isRoot(other) {
		return spot{}, api.ErrRoot
	}
	s, kind, e := h.findField(root, letter)
	if e != api.OK {
		return spot{}, e
	}
	if kind != api.Ref {
		return spot{}, api.ErrKind
	}
	return s, api.OK
}

// findField finds the field of a root's object, and tells its kind.
func (h *Heap) findField(root int, letter byte) (spot, byte, api.Errno) {
	number, e := h.held(root)
	if e != api.OK {
		return spot{}, 0, e
	}
	class := h.classOf(number)
	index := class.Index(letter)
	if index < 0 || index >= len(class.Fields) {
		return spot{}, 0, api.ErrField
	}
	return spot{number: number, index: index}, class.Fields[index].Kind, api.OK
}
