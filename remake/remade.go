package remake

import "remake/api"

// remade tells what the heap becomes when its update is carried out, with none
// pending any more, or why it can't be. It is another heap, so that nothing is
// to be undone if it can't; each object keeps its number.
func (h *Heap) remade() (Heap, api.Errno) {
	next := Heap{schema: h.update.Schema(), size: h.size}
	there := h.reached()
	for _, number := range there.list {
		o, e := h.remadeObject(h.objects[number])
		if e != api.OK {
			return Heap{}, e
		}
		next.objects[number] = o
	}
	for i, number := range h.roots {
		next.roots[i] = h.unlessVanished(number)
	}
	if next.Words() > next.size {
		return Heap{}, api.ErrFull
	}
	return next, api.OK
}

// remadeObject: one that vanishes leaves its place empty.
func (h *Heap) remadeObject(old object) (object, api.Errno) {
	making, known := h.update.Find(old.class)
	if !known {
		return object{}, api.OK
	}
	numbers, e := making.Numbers(old.numbers)
	if e != api.OK {
		return object{}, e
	}
	o := object{class: making.Letter(), numbers: numbers}
	taken := making.Refs(old.refs)
	for i, number := range taken {
		o.refs[i] = h.unlessVanished(number)
	}
	return o, api.OK
}

// unlessVanished tells the number again, or none, if the update lets that object vanish.
func (h *Heap) unlessVanished(number int) int {
	if number <= none || number >= len(h.objects) {
		return none
	}
	_, known := h.update.Find(h.objects[number].class)
	if !known {
		return none
	}
	return number
}
