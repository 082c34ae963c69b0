// Package classes: the classes of a heap, their fields, and the text that tells them.
package classes

import "remake/api"

// Field is a field of a class.
type Field struct {
	Letter byte
	Kind   byte
}

// Class is a class of a schema.
type Class struct {
	Letter byte
	Fields []Field
}

// Schema is what a text tells: its classes, in its order.
type Schema struct {
	Classes []Class
}

// Index tells the place of a field in its class, -1 if the class has none of that letter.
func (c Class) Index(letter byte) int {
	for i, f := range c.Fields {
		if f.Letter == letter {
			return i
		}
	}
	return -1
}

// KindOf tells the kind of a field, and whether the class has one of that letter.
func (c Class) KindOf(letter byte) (byte, bool) {
	index := c.Index(letter)
	if index < 0 || index >= len(c.Fields) {
		return 0, false
	}
	return c.Fields[index].Kind, true
}

// Words tells how many words an object of the class takes.
func (c Class) Words() int {
	return len(c.Fields) + 1
}

// Find tells the class of a Letter, and whether there is one.
func (s Schema) Find(letter byte) (Class, bool) {
	for _, c := range s.Classes {
		if c.Letter == letter {
			return c, true
		}
	}
	return Class{}, false
}

// Wrap makes of n the number of the kind that it wraps to.
func Wrap(kind byte, n int64) int64 {
	switch kind {
	case api.Byte:
		return int64(uint8(n))
	case api.Half:
		return int64(int16(n))
	case api.Word:
		return int64(int32(n))
	}
	return n
}
