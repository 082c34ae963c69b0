package updates

import (
	"remake/api"
	"remake/classes"
)

// Number tells what a field of the new class becomes of an old object's
// numbers, or why there is no such number (P15).
func (m Making) Number(letter byte, old [api.MaxFields]int64) (int64, api.Errno) {
	index := m.class.Index(letter)
	if index < 0 || index >= len(m.class.Fields) || index >= len(m.rules) {
		return 0, api.ErrField
	}
	kind := m.class.Fields[index].Kind
	if kind == api.Ref {
		return 0, api.ErrKind
	}
	value := m.rules[index].reckon(old)
	wrapped := classes.Wrap(kind, value)
	if m.rules[index].exact && wrapped != value {
		return 0, api.ErrRange
	}
	return wrapped, api.OK
}

// Numbers tells what an old object's numbers become, all at their places in
// the new class, where those of references are 0; or ErrRange, if the update
// fails at one.
func (m Making) Numbers(old [api.MaxFields]int64) ([api.MaxFields]int64, api.Errno) {
	var numbers [api.MaxFields]int64
	for i, f := range m.class.Fields {
		if f.Kind == api.Ref || i >= len(numbers) {
			continue
		}
		number, e := m.Number(f.Letter, old)
		if e != api.OK {
			return [api.MaxFields]int64{}, e
		}
		numbers[i] = number
	}
	return numbers, api.OK
}

// Refs tells what an old object's references become, all at their places in
// the new class, where those of numbers are 0, as is one to none.
func (m Making) Refs(old [api.MaxFields]int) [api.MaxFields]int {
	var refs [api.MaxFields]int
	for i, f := range m.class.Fields {
		if f.Kind == api.Ref && i < len(refs) && i < len(m.rules) {
			refs[i] = m.rules[i].take(old)
		}
	}
	return refs
}
