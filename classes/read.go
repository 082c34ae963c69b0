package classes

import "remake/api"

const nowhere = -1

// reader goes over a text from the left to the right. It never goes beyond
// a byte that does not fit, so that where it stops is the place of the fault.
type reader struct {
	text  string
	at    int
	twice int // the first letter that has stood before, or nowhere
}

// Read makes a schema of a text, or tells the fault and its place (P3).
func Read(text string) (Schema, api.Errno, int) {
	if len(text) > api.MaxText {
		return Schema{}, api.ErrLong, 0
	}
	r := reader{text: text, twice: nowhere}
	s, ok := r.readClasses()
	if !ok {
		return Schema{}, api.ErrSyntax, r.at
	}
	if r.twice != nowhere {
		return Schema{}, api.ErrTwice, r.twice
	}
	return s, api.OK, 0
}

func (r *reader) readClasses() (Schema, bool) {
	var s Schema
	for len(s.Classes) < api.MaxClasses {
		c, ok := r.readClass(s)
		if !ok {
			return Schema{}, false
		}
		s.Classes = append(s.Classes, c)
		if r.at == len(r.text) {
			return s, true
		}
	}
	return Schema{}, false
}

// readClass reads the class that stands behind those of s.
func (r *reader) readClass(s Schema) (Class, bool) {
	letter := r.next()
	if letter < 'A' || letter > 'Z' {
		return Class{}, false
	}
	_, before := s.Find(letter)
	if before {
		r.noteTwice()
	}
	r.at++
	opened := r.take('{')
	if !opened {
		return Class{}, false
	}
	fields, ok := r.readFields()
	if !ok {
		return Class{}, false
	}
	return Class{Letter: letter, Fields: fields}, true
}

// readFields reads up to the bracket that ends the class, and that one too.
func (r *reader) readFields() ([]Field, bool) {
	var c Class
	empty := r.take('}')
	if empty {
		return nil, true
	}
	for len(c.Fields) < api.MaxFields {
		f, ok := r.readField(c)
		if !ok {
			return nil, false
		}
		c.Fields = append(c.Fields, f)
		closed := r.take('}')
		if closed {
			return c.Fields, true
		}
		// The comma behind the last field that may be is a fault itself, not what follows it.
		if len(c.Fields) == api.MaxFields || r.next() != ',' {
			return nil, false
		}
		r.at++
	}
	return nil, false
}

// readField reads the field that stands behind those of c.
func (r *reader) readField(c Class) (Field, bool) {
	letter := r.next()
	if letter < 'a' || letter > 'z' {
		return Field{}, false
	}
	if c.Index(letter) >= 0 {
		r.noteTwice()
	}
	r.at++
	parted := r.take(':')
	if !parted {
		return Field{}, false
	}
	kind := r.next()
	if !IsKind(kind) {
		return Field{}, false
	}
	r.at++
	return Field{Letter: letter, Kind: kind}, true
}

// noteTwice keeps the place of the next byte, if none is kept: the leftmost one counts.
func (r *reader) noteTwice() {
	if r.twice == nowhere {
		r.twice = r.at
	}
}

// take goes beyond the next byte if it is b.
func (r *reader) take(b byte) bool {
	if r.next() != b {
		return false
	}
	r.at++
	return true
}

// next tells the next byte. At the end it tells 0, which fits nowhere in a schema.
func (r *reader) next() byte {
	if r.at < 0 || r.at >= len(r.text) {
		return 0
	}
	return r.text[r.at]
}
