package grammar

import (
	"reflect"
	"strconv"
	"strings"
	"testing"

	"remake/api"
)

func TestReadUpdateTellsTheParts(t *testing.T) {
	list, e, place := ReadUpdate("Q<P{x:b=x*20!,n:r=0}R{y:l}")
	want := []Class{
		{
			Name: Mark{'Q', 0}, From: Mark{'P', 2},
			Fields: []Field{
				{Name: Mark{'x', 4}, Kind: 'b', Sum: Sum{
					Terms: []Term{{'x', 0, 8}, {Number, 20, 10}, {'*', 0, 9}}, Place: 8, Exact: true}},
				{Name: Mark{'n', 14}, Kind: 'r', Sum: Sum{Terms: []Term{{Number, 0, 18}}, Place: 18}},
			},
		},
		{Name: Mark{'R', 20}, Fields: []Field{{Name: Mark{'y', 22}, Kind: 'l'}}},
	}
	if e != api.OK || place != 0 || !reflect.DeepEqual(list, want) {
		t.Errorf("ReadUpdate: %v, %d, %d, want %v", list, e, place, want)
	}
}

func TestReadSchemaTellsTheParts(t *testing.T) {
	list, e, place := ReadSchema("P{x:w,n:r}P{}")
	want := []Class{
		{Name: Mark{'P', 0}, Fields: []Field{{Name: Mark{'x', 2}, Kind: 'w'}, {Name: Mark{'n', 6}, Kind: 'r'}}},
		{Name: Mark{'P', 10}},
	}
	if e != api.OK || place != 0 || !reflect.DeepEqual(list, want) {
		t.Errorf("ReadSchema: %v, %d, %d, want %v", list, e, place, want)
	}
}

func TestReadTellsNothingWithAnError(t *testing.T) {
	long := "P{x:w=" + strings.Repeat("1+", 97) + "1}"
	for _, c := range []struct {
		text  string
		e     api.Errno
		place int
	}{
		{"P{x:w=1}Q", api.ErrSyntax, 9}, {long, api.ErrLong, 0},
	} {
		list, e, place := ReadUpdate(c.text)
		if list != nil || e != c.e || place != c.place {
			t.Errorf("ReadUpdate(%q): %v, %d, %d, want %d, %d", c.text, list, e, place, c.e, c.place)
		}
	}
	for _, text := range []string{"Q<P{}", "P{x:w=1}"} {
		list, e, _ := ReadSchema(text)
		if list != nil || e != api.ErrSyntax {
			t.Errorf("ReadSchema(%q): %v, %d: that is an update's form", text, list, e)
		}
	}
}

// order: the terms of a sum as a text.
func order(s Sum) string {
	var words []string
	for _, t := range s.Terms {
		if t.What == Number {
			words = append(words, strconv.FormatInt(t.Value, 10))
		} else {
			words = append(words, string(rune(t.What)))
		}
	}
	return strings.Join(words, " ")
}

func TestSumsStandInTheOrderOfReckoning(t *testing.T) {
	for sum, want := range map[string]string{
		"x":                   "x",
		"0":                   "0",
		"999999999":           "999999999",
		"a+b*2":               "a b 2 * +",
		"a*b+2":               "a b * 2 +",
		"a-b-c":               "a b - c -",
		"a-b+c":               "a b - c +",
		"a-(b-c)":             "a b c - -",
		"a*b*c":               "a b * c *",
		"a*(b+c)*d":           "a b c + * d *",
		"((a))":               "a",
		"a-b*c-d":             "a b c * - d -",
		"(1+2)*(3-4)+5":       "1 2 + 3 4 - * 5 +",
		"((((((a-1)*2)+3))))": "a 1 - 2 * 3 +",
		"10*100+1000":         "10 100 * 1000 +",
	} {
		list, e, _ := ReadUpdate("P{x:w=" + sum + ",y:w=1}")
		if e != api.OK || order(list[0].Fields[0].Sum) != want || order(list[0].Fields[1].Sum) != "1" {
			t.Errorf("the terms of %s: %v, %d, want %s", sum, list, e, want)
		}
	}
}

func TestIsAlone(t *testing.T) {
	for sum, want := range map[string]bool{
		"x": true, "0": true, "12": true,
		"x!": false, "(x)": false, "((0))": false, "x+x": false, "0*0": false, "(x)!": false,
	} {
		list, _, _ := ReadUpdate("P{x:w=" + sum + "}")
		if list[0].Fields[0].Sum.IsAlone() != want {
			t.Errorf("IsAlone of %s is not %v", sum, want)
		}
	}
	if (Sum{}).IsAlone() {
		t.Error("no sum is alone")
	}
}

func TestTerms(t *testing.T) {
	for _, c := range []struct {
		t            Term
		letter, zero bool
	}{
		{Term{What: 'a'}, true, false}, {Term{What: 'z'}, true, false}, {Term{What: '+'}, false, false},
		{Term{What: Number}, false, true}, {Term{What: Number, Value: 1}, false, false},
	} {
		if c.t.IsLetter() != c.letter || c.t.IsZero() != c.zero {
			t.Errorf("%v: a letter: %v, zero: %v", c.t, c.t.IsLetter(), c.t.IsZero())
		}
	}
}

func TestTwice(t *testing.T) {
	for text, want := range map[string]int{
		"P{x:w}Q{x:w}": Nowhere, "P<P{x:w=x}": Nowhere, "Q<P{}P{}": Nowhere,
		"P{x:w,x:b}": 6, "P{}P{}": 3, "P{}Q{}P{a:b,a:b}": 6, "P{a:b,a:b}P{}": 6, "P{a:b,c:b,a:b,c:b}": 10,
	} {
		list, _, _ := ReadUpdate(text)
		if place := Twice(list); place != want {
			t.Errorf("Twice of %s: %d, want %d", text, place, want)
		}
	}
}

func TestIsKind(t *testing.T) {
	for b := 0; b < 256; b++ {
		if want := strings.IndexByte("bhwlr", byte(b)) >= 0; IsKind(byte(b)) != want {
			t.Errorf("IsKind(%q) is not %v", byte(b), want)
		}
	}
}
