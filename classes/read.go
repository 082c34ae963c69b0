package classes

import (
	"remake/api"
	"remake/grammar"
)

// Read makes a schema of a text, or tells the fault and its place (P3).
func Read(text string) (Schema, api.Errno, int) {
	list, e, place := grammar.ReadSchema(text)
	if e != api.OK {
		return Schema{}, e, place
	}
	place = grammar.Twice(list)
	if place != grammar.Nowhere {
		return Schema{}, api.ErrTwice, place
	}
	return schemaOf(list), api.OK, 0
}

func schemaOf(list []grammar.Class) Schema {
	var s Schema
	for _, c := range list {
		class := Of(c)
		s.Classes = append(s.Classes, class)
	}
	return s
}

// Of leaves out where a class and its fields stood in their text, and all that
// an update says beside them.
func Of(c grammar.Class) Class {
	class := Class{Letter: c.Name.Letter}
	for _, f := range c.Fields {
		class.Fields = append(class.Fields, Field{Letter: f.Name.Letter, Kind: f.Kind})
	}
	return class
}
