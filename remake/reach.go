package remake

import "remake/api"

// reach: the objects that are there. Each is listed once, so that the search
// for them ends, however the references run.
type reach struct {
	seen [api.MaxSize + 1]bool
	list []int
}

func (r *reach) add(number int) {
	if number <= none || number >= len(r.seen) || r.seen[number] {
		return
	}
	r.seen[number] = true
	r.list = append(r.list, number)
}

// free tells a place that no object that is there has. There is one as long
// as a word of the heap is left, for there are as many places as words.
func (r *reach) free() int {
	for number := 1; number < len(r.seen); number++ {
		if !r.seen[number] {
			return number
		}
	}
	return none
}

// reached finds the objects that are there.
func (h *Heap) reached() reach {
	var r reach
	for _, number := range h.roots {
		r.add(number)
	}
	for i := 0; i < len(r.list); i++ {
		refs := h.objects[r.list[i]].refs
		for _, number := range refs {
			r.add(number)
		}
	}
	return r
}

// wordsOf tells how many words some objects take.
func (h *Heap) wordsOf(list []int) int {
	words := 0
	for _, number := range list {
		class := h.classOf(number)
		words += class.Words()
	}
	return words
}
