package updates

import (
	"remake/api"
	"remake/classes"
	"remake/grammar"
)

// rule: how a field comes of the old ones. Without terms it becomes 0 or none.
type rule struct {
	terms []term
	exact bool // the value must lie in the range of the field's kind
}

// term: a part of a sum, in the order that grammar.Sum has.
type term struct {
	what  byte  // as in grammar.Term
	value int64 // of a number
	index int   // of a letter: the old field's place in its class
}

func ruleOf(source classes.Class, f grammar.Field) rule {
	if len(f.Sum.Terms) == 0 {
		return ruleWithoutSum(source, f)
	}
	r := rule{exact: f.Sum.Exact}
	for _, t := range f.Sum.Terms {
		index := source.Index(t.What)
		r.terms = append(r.terms, term{what: t.What, value: t.Value, index: index})
	}
	return r
}

// ruleWithoutSum: the old field of the same letter is a sum of its own, if it
// is of the same sort.
func ruleWithoutSum(source classes.Class, f grammar.Field) rule {
	letter := f.Name.Letter
	kind, known := source.KindOf(letter)
	if !known || (kind == api.Ref) != (f.Kind == api.Ref) {
		return rule{}
	}
	index := source.Index(letter)
	return rule{terms: []term{{what: letter, index: index}}}
}

// reckon tells the value of the rule's sum for an old object's numbers.
func (r rule) reckon(numbers [api.MaxFields]int64) int64 {
	var p pile
	for _, t := range r.terms {
		switch t.what {
		case '+', '-', '*':
			right := p.pop()
			left := p.pop()
			result := join(left, t.what, right)
			p.push(result)
		case grammar.Number:
			p.push(t.value)
		default:
			number := numberAt(numbers, t.index)
			p.push(number)
		}
	}
	return p.pop()
}

func join(left int64, sign byte, right int64) int64 {
	switch sign {
	case '+':
		return left + right
	case '-':
		return left - right
	}
	return left * right
}

func numberAt(numbers [api.MaxFields]int64, index int) int64 {
	if index < 0 || index >= len(numbers) {
		return 0
	}
	return numbers[index]
}

// take tells the old object's reference that the rule's sum, a letter alone,
// names; 0, which is none, if it is another sum, or there is no sum.
func (r rule) take(refs [api.MaxFields]int) int {
	if len(r.terms) != 1 || r.terms[0].what == grammar.Number {
		return 0
	}
	index := r.terms[0].index
	if index < 0 || index >= len(refs) {
		return 0
	}
	return refs[index]
}

// pile: the values that still wait for their sign. An empty one gives 0.
type pile struct {
	numbers []int64
}

func (p *pile) push(n int64) {
	p.numbers = append(p.numbers, n)
}

func (p *pile) pop() int64 {
	last := len(p.numbers) - 1
	if last < 0 {
		return 0
	}
	n := p.numbers[last]
	p.numbers = p.numbers[:last]
	return n
}
