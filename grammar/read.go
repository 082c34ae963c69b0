package grammar

import "remake/api"

// reader goes over a text from the left to the right. It never goes beyond
// a byte that does not fit, so that where it stops is the place of the fault.
type reader struct {
	text    string
	at      int
	updates bool   // the form is an update's: "<" and "=" may stand
	terms   []Term // of the sum that is being read
}

// ReadSchema reads the classes of a schema, or tells the fault and its place (P3).
func ReadSchema(text string) ([]Class, api.Errno, int) {
	return read(text, false)
}

// ReadUpdate reads the classes of an update, or tells the fault and its place (P4).
func ReadUpdate(text string) ([]Class, api.Errno, int) {
	return read(text, true)
}

func read(text string, updates bool) ([]Class, api.Errno, int) {
	if len(text) > api.MaxText {
		return nil, api.ErrLong, 0
	}
	r := reader{text: text, updates: updates}
	list, ok := r.readClasses()
	if !ok {
		return nil, api.ErrSyntax, r.at
	}
	return list, api.OK, 0
}

func (r *reader) readClasses() ([]Class, bool) {
	var list []Class
	for len(list) < api.MaxClasses {
		c, ok := r.readClass()
		if !ok {
			return nil, false
		}
		list = append(list, c)
		if r.at == len(r.text) {
			return list, true
		}
	}
	return nil, false
}

func (r *reader) readClass() (Class, bool) {
	name, ok := r.takeLetter('A', 'Z')
	if !ok {
		return Class{}, false
	}
	from, ok := r.readFrom()
	if !ok {
		return Class{}, false
	}
	opened := r.take('{')
	if !opened {
		return Class{}, false
	}
	fields, ok := r.readFields()
	if !ok {
		return Class{}, false
	}
	return Class{Name: name, From: from, Fields: fields}, true
}

// readFrom reads "<" and the Letter behind it, if they stand there.
func (r *reader) readFrom() (Mark, bool) {
	if !r.updates {
		return Mark{}, true
	}
	begun := r.take('<')
	if !begun {
		return Mark{}, true
	}
	return r.takeLetter('A', 'Z')
}

// readFields reads up to the bracket that ends the class, and that one too.
func (r *reader) readFields() ([]Field, bool) {
	var list []Field
	empty := r.take('}')
	if empty {
		return nil, true
	}
	for len(list) < api.MaxFields {
		f, ok := r.readField()
		if !ok {
			return nil, false
		}
		list = append(list, f)
		closed := r.take('}')
		if closed {
			return list, true
		}
		// The comma behind the last field that may be is a fault itself, not what follows it.
		if len(list) == api.MaxFields || r.next() != ',' {
			return nil, false
		}
		r.at++
	}
	return nil, false
}

func (r *reader) readField() (Field, bool) {
	name, ok := r.takeLetter('a', 'z')
	if !ok {
		return Field{}, false
	}
	parted := r.take(':')
	if !parted {
		return Field{}, false
	}
	kind := r.next()
	if !IsKind(kind) {
		return Field{}, false
	}
	r.at++
	sum, ok := r.readRule()
	if !ok {
		return Field{}, false
	}
	return Field{Name: name, Kind: kind, Sum: sum}, true
}

// takeLetter goes beyond the next byte if it is one from first to last.
func (r *reader) takeLetter(first byte, last byte) (Mark, bool) {
	m := Mark{Letter: r.next(), Place: r.at}
	if !isIn(m.Letter, first, last) {
		return Mark{}, false
	}
	r.at++
	return m, true
}

// take goes beyond the next byte if it is b.
func (r *reader) take(b byte) bool {
	if r.next() != b {
		return false
	}
	r.at++
	return true
}

// next tells the next byte. At the end it tells 0, which fits nowhere.
func (r *reader) next() byte {
	if r.at < 0 || r.at >= len(r.text) {
		return 0
	}
	return r.text[r.at]
}
