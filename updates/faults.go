package updates

import (
	"remake/api"
	"remake/classes"
	"remake/grammar"
)

// noLetter is told instead of a class's source where it is made of none.
const noLetter = 0

// findTwice tells the least place of ErrTwice, or Nowhere.
func findTwice(old classes.Schema, list []grammar.Class) int {
	letter := grammar.Twice(list)
	source := sourceTwice(old, list)
	if letter == grammar.Nowhere || (source != grammar.Nowhere && source < letter) {
		return source
	}
	return letter
}

// sourceTwice tells the place of the first class that is made of the same
// Letter as one ahead of it, or Nowhere.
func sourceTwice(old classes.Schema, list []grammar.Class) int {
	for i, c := range list {
		letter := sourceLetter(old, c)
		if letter != noLetter && isSource(old, list[:i], letter) {
			return c.Name.Place
		}
	}
	return grammar.Nowhere
}

func isSource(old classes.Schema, list []grammar.Class, letter byte) bool {
	for _, c := range list {
		if sourceLetter(old, c) == letter {
			return true
		}
	}
	return false
}

// sourceLetter tells the Letter that a class is made of. One behind a "<" need
// not be an old class's: that is another fault, and a later one.
func sourceLetter(old classes.Schema, c grammar.Class) byte {
	if c.From.Letter != noLetter {
		return c.From.Letter
	}
	_, known := old.Find(c.Name.Letter)
	if known {
		return c.Name.Letter
	}
	return noLetter
}

// findFault tells the error at the least place: the first one from the left.
func findFault(old classes.Schema, list []grammar.Class) (api.Errno, int) {
	for _, c := range list {
		letter := sourceLetter(old, c)
		source, known := old.Find(letter)
		if c.From.Letter != noLetter && !known {
			return api.ErrClass, c.From.Place
		}
		for _, f := range c.Fields {
			e, place := faultOfField(source, f)
			if e != api.OK {
				return e, place
			}
		}
	}
	return api.OK, 0
}

// faultOfField tells what is wrong with a field's sum. A class that is made of
// none has the zero class for its source, which has no field.
func faultOfField(source classes.Class, f grammar.Field) (api.Errno, int) {
	if f.Kind == api.Ref {
		return faultOfRef(source, f.Sum)
	}
	return faultOfNumber(source, f.Sum)
}

func faultOfNumber(source classes.Class, sum grammar.Sum) (api.Errno, int) {
	for _, t := range sum.Terms {
		if !t.IsLetter() {
			continue
		}
		kind, known := source.KindOf(t.What)
		if !known {
			return api.ErrField, t.Place
		}
		if kind == api.Ref {
			return api.ErrKind, t.Place
		}
	}
	return api.OK, 0
}

// faultOfRef: every wrong kind is told at the sum's first byte. So a letter
// that is no field goes ahead of it only if it stands there too.
func faultOfRef(source classes.Class, sum grammar.Sum) (api.Errno, int) {
	if len(sum.Terms) == 0 {
		return api.OK, 0
	}
	first := sum.Terms[0]
	kind, known := source.KindOf(first.What)
	if first.IsLetter() && !known && first.Place == sum.Place {
		return api.ErrField, sum.Place
	}
	takes := kind == api.Ref || first.IsZero()
	if takes && sum.IsAlone() {
		return api.OK, 0
	}
	return api.ErrKind, sum.Place
}
