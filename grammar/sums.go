package grammar

import "remake/api"

// maxDigits: 999999999 is the greatest number that may stand in a sum.
const maxDigits = 9

// readRule reads "=", the sum behind it and "!", if they stand there.
func (r *reader) readRule() (Sum, bool) {
	if !r.updates {
		return Sum{}, true
	}
	begun := r.take('=')
	if !begun {
		return Sum{}, true
	}
	place := r.at
	r.terms = nil
	ok := r.readSum(0)
	if !ok {
		return Sum{}, false
	}
	exact := r.take('!')
	return Sum{Terms: r.terms, Place: place, Exact: exact}, true
}

// readSum reads a sum that stands within so many brackets.
func (r *reader) readSum(deep int) bool {
	ok := r.readProduct(deep)
	for ok {
		sign := r.here()
		if sign.What != '+' && sign.What != '-' {
			break
		}
		r.at++
		ok = r.readProduct(deep)
		r.terms = append(r.terms, sign)
	}
	return ok
}

func (r *reader) readProduct(deep int) bool {
	ok := r.readFactor(deep)
	for ok {
		sign := r.here()
		if sign.What != '*' {
			break
		}
		r.at++
		ok = r.readFactor(deep)
		r.terms = append(r.terms, sign)
	}
	return ok
}

func (r *reader) readFactor(deep int) bool {
	t := r.here()
	if isIn(t.What, '0', '9') {
		r.readNumber()
		return true
	}
	if t.IsLetter() {
		r.at++
		r.terms = append(r.terms, t)
		return true
	}
	if t.What != '(' || deep >= api.MaxDeep {
		return false
	}
	r.at++
	ok := r.readSum(deep + 1)
	return ok && r.take(')')
}

// readNumber reads digits for as long as they make a number. A digit too many
// is left where it is, and fits nowhere.
func (r *reader) readNumber() {
	t := Term{What: Number, Place: r.at}
	for digits := 0; digits < maxDigits; digits++ {
		digit := r.next()
		if !isIn(digit, '0', '9') {
			break
		}
		r.at++
		t.Value = t.Value*10 + int64(digit-'0')
		// A 0 stays 0 only if it is the first digit, and then it is the only one.
		if t.Value == 0 {
			break
		}
	}
	r.terms = append(r.terms, t)
}

// here tells the next byte as a term.
func (r *reader) here() Term {
	return Term{What: r.next(), Place: r.at}
}
