package remake_test

import (
	"regexp"
	"strings"
	"testing"

	"remake/api"
	"remake/remake"
)

func TestCheckOfExamples(t *testing.T) {
	six := "P{a:b,b:h,c:w,d:l,e:r,f:b}"
	for _, c := range []struct {
		schema string
		e      api.Errno
		place  int
	}{
		{"P{x:w,n:r}Q{}", api.OK, 0},
		{"A{}Z{}", api.OK, 0},
		{"P{a:b,z:b}", api.OK, 0},
		{"P{x:b}Q{x:b}", api.OK, 0},
		{six, api.OK, 0},
		{"A{}B{}C{}D{}E{}F{}", api.OK, 0},
		{"", api.ErrSyntax, 0},
		{"P", api.ErrSyntax, 1},
		{"P{x}", api.ErrSyntax, 3},
		{"P{x:z}", api.ErrSyntax, 4},
		{"P{,}", api.ErrSyntax, 2},
		{"P{x:w,}", api.ErrSyntax, 6},
		{"P{x:w,", api.ErrSyntax, 6},
		{"@{}", api.ErrSyntax, 0},
		{"[{}", api.ErrSyntax, 0},
		{"P{`:b}", api.ErrSyntax, 2},
		{"P{{:b}", api.ErrSyntax, 2},
		{"P{}\x00", api.ErrSyntax, 3},
		{"\x00", api.ErrSyntax, 0},
		{"P\xff", api.ErrSyntax, 1},
		{" P{}", api.ErrSyntax, 0},
		{"P{}\n", api.ErrSyntax, 3},
		{"Q<P{}", api.ErrSyntax, 1},
		{"P{x:w=1}", api.ErrSyntax, 5},
		{"A{}B{}C{}D{}E{}F{}G{}", api.ErrSyntax, 18},
		{"A{}B{}C{}D{}E{}F{}A{}", api.ErrSyntax, 18},
		{six[:25] + ",g:b}", api.ErrSyntax, 25},
		{six[:25] + ",a:b}", api.ErrSyntax, 25},
		{"P{x:w,x:b}", api.ErrTwice, 6},
		{"P{}P{}", api.ErrTwice, 3},
		{"P{}Q{}P{a:b,a:b}", api.ErrTwice, 6},
		{"P{a:b,a:b}P{}", api.ErrTwice, 6},
		{"P{a:b,c:b,a:b,c:b}", api.ErrTwice, 10},
		{"P{a:b,a:b}P{}?", api.ErrSyntax, 13},
		{"P{a:b,a:b", api.ErrSyntax, 9},
		{"P{}P", api.ErrSyntax, 4},
		{strings.Repeat("?", 200), api.ErrSyntax, 0},
		{six + strings.Repeat("?", 174), api.ErrSyntax, 26},
		{six + strings.Repeat("?", 175), api.ErrLong, 0},
		{strings.Repeat("?", 201), api.ErrLong, 0},
	} {
		if e, place := remake.Check(c.schema); e != c.e || place != c.place {
			t.Errorf("P3: Check(%q) = %d, %d, want %d, %d", c.schema, e, place, c.e, c.place)
		}
	}
}

var (
	form    = regexp.MustCompile(`^(?s:[A-Z]\{([a-z]:[bhwlr](,[a-z]:[bhwlr]){0,5})?\}){1,6}\z`)
	endings = []string{"", "}", "{}", "A{}", "b}", ":b}", "a:b}"}
)

// begins: whether some schema begins with the text. If one does, then so does the text with one of the endings.
func begins(text string) bool {
	for _, ending := range endings {
		if form.MatchString(text + ending) {
			return true
		}
	}
	return false
}

// wanted: what P3 asks of Check, word by word.
func wanted(text string) (api.Errno, int) {
	if len(text) > 200 {
		return api.ErrLong, 0
	}
	for i := 0; i < len(text); i++ {
		if !begins(text[:i+1]) {
			return api.ErrSyntax, i
		}
	}
	if !form.MatchString(text) {
		return api.ErrSyntax, len(text)
	}
	letters, fields := "", ""
	for i := 0; i < len(text); i++ {
		switch {
		case text[i] >= 'A' && text[i] <= 'Z':
			if strings.IndexByte(letters, text[i]) >= 0 {
				return api.ErrTwice, i
			}
			letters += text[i : i+1]
			fields = ""
		case i+1 < len(text) && text[i+1] == ':':
			if strings.IndexByte(fields, text[i]) >= 0 {
				return api.ErrTwice, i
			}
			fields += text[i : i+1]
		}
	}
	return api.OK, 0
}

func compareCheck(t *testing.T, text string) {
	t.Helper()
	e, place := wanted(text)
	if gotE, got := remake.Check(text); gotE != e || got != place {
		t.Errorf("P3: Check(%q) = %d, %d, want %d, %d", text, gotE, got, e, place)
	}
	h, gotE := remake.New(text, 200)
	if gotE != e || (h != nil) != (e == api.OK) {
		t.Errorf("P6: New(%q, 200): %v, %d, want %d", text, h != nil, gotE, e)
	}
}

// changes: the text's beginnings, and the text with a byte changed, left out or put in.
func changes(text string, bytes string) []string {
	list := []string{text}
	for i := 0; i <= len(text); i++ {
		for j := range len(bytes) {
			list = append(list, text[:i]+bytes[j:j+1]+text[i:])
			if i < len(text) {
				list = append(list, text[:i]+bytes[j:j+1]+text[i+1:])
			}
		}
		if i < len(text) {
			list = append(list, text[:i], text[:i]+text[i+1:])
		}
	}
	return list
}

// TestCheckOfChangedTexts: texts that are schemas, or nearly so, changed.
func TestCheckOfChangedTexts(t *testing.T) {
	for _, text := range []string{
		"P{x:w,n:r}Q{}",
		"P{a:b,b:h,c:w,d:l,e:r,f:b}Q{q:b}",
		"A{}B{b:l}C{}D{}E{a:r,z:h}F{}",
		"P{x:b,x:b}P{}",
	} {
		for _, changed := range changes(text, "AQZ@[abhlrwxz`{}:,=<!0 \x00\xff") {
			compareCheck(t, changed)
		}
	}
}

// TestCheckOfShortTexts: every text of up to five bytes of those that stand in a schema.
func TestCheckOfShortTexts(t *testing.T) {
	bytes := "PQ{}x:b,"
	texts := []string{""}
	for n := 0; n <= 5; n++ {
		var longer []string
		for _, text := range texts {
			compareCheck(t, text)
			for j := 0; j < len(bytes); j++ {
				longer = append(longer, text+bytes[j:j+1])
			}
		}
		texts = longer
	}
}

func FuzzCheck(f *testing.F) {
	f.Add("P{x:w,n:r}Q{}")
	f.Add("P{a:b,a:b}P{}")
	f.Fuzz(func(t *testing.T, text string) { compareCheck(t, text) })
}
