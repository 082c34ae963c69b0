// Package updates: what an update makes of a schema, and of the objects of its classes.
package updates

import (
	"remake/api"
	"remake/classes"
	"remake/grammar"
)

// Update is what an update's text tells: how its classes are made, in its order.
type Update struct {
	makings []Making
}

// Making is how a new class is made.
type Making struct {
	class  classes.Class
	source byte   // the Letter of the old class that it is made of, or noLetter
	rules  []rule // of its fields, in their order
}

// Read makes an update to the old schema of a text, or tells the fault and its place (P4).
func Read(old classes.Schema, text string) (Update, api.Errno, int) {
	list, e, place := grammar.ReadUpdate(text)
	if e != api.OK {
		return Update{}, e, place
	}
	place = findTwice(old, list)
	if place != grammar.Nowhere {
		return Update{}, api.ErrTwice, place
	}
	e, place = findFault(old, list)
	if e != api.OK {
		return Update{}, e, place
	}
	return updateOf(old, list), api.OK, 0
}

func updateOf(old classes.Schema, list []grammar.Class) Update {
	var u Update
	for _, c := range list {
		m := makingOf(old, c)
		u.makings = append(u.makings, m)
	}
	return u
}

func makingOf(old classes.Schema, c grammar.Class) Making {
	letter := sourceLetter(old, c)
	source, _ := old.Find(letter)
	m := Making{class: classes.Of(c), source: letter}
	for _, f := range c.Fields {
		r := ruleOf(source, f)
		m.rules = append(m.rules, r)
	}
	return m
}

// Find tells how the class is made that an old class is the source of, and
// whether there is one.
func (u Update) Find(source byte) (Making, bool) {
	for _, m := range u.makings {
		if m.source == source && source != noLetter {
			return m, true
		}
	}
	return Making{}, false
}

// Schema tells the new one.
func (u Update) Schema() classes.Schema {
	var s classes.Schema
	for _, m := range u.makings {
		s.Classes = append(s.Classes, m.class)
	}
	return s
}

// Letter tells that of the new class.
func (m Making) Letter() byte {
	return m.class.Letter
}
