// Package grammar: the forms of schemas and updates. It reads a text into its
// parts, and tells where they stand; what they mean is told elsewhere.
package grammar

import "remake/api"

// Nowhere is told instead of a place where there is none.
const Nowhere = -1

// Mark is a letter of a text, and its place.
type Mark struct {
	Letter byte
	Place  int
}

// Class is a class of a text. Without a "<" its From is zero.
type Class struct {
	Name   Mark
	From   Mark
	Fields []Field
}

// Field is a field of a class.
type Field struct {
	Name Mark
	Kind byte
	Sum  Sum
}

// Sum is what stands behind a field's "=". Without one it has no terms. Its
// operands stand ahead of their signs, so that no brackets are left: a+b*2 is
// a b 2 * +.
type Sum struct {
	Terms []Term
	Place int  // of its first byte, be it a bracket or not
	Exact bool // a "!" stands behind it
}

// Number is what stands in a term for a number.
const Number byte = '0'

// Term is a part of a sum: a number, a letter or a sign.
type Term struct {
	What  byte // Number, or the letter or sign itself
	Value int64
	Place int
}

// IsLetter tells whether the term is one, and so the name of a field.
func (t Term) IsLetter() bool {
	return isIn(t.What, 'a', 'z')
}

// IsZero tells whether the term is the number 0.
func (t Term) IsZero() bool {
	return t.What == Number && t.Value == 0
}

// IsAlone tells whether the sum is one term, without brackets and "!".
func (s Sum) IsAlone() bool {
	return len(s.Terms) == 1 && s.Terms[0].Place == s.Place && !s.Exact
}

// IsKind tells whether a byte is a kind of field.
func IsKind(b byte) bool {
	switch b {
	case api.Byte, api.Half, api.Word, api.Long, api.Ref:
		return true
	}
	return false
}

func isIn(b byte, first byte, last byte) bool {
	return b >= first && b <= last
}
