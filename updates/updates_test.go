package updates

import (
	"testing"

	"remake/api"
	"remake/classes"
)

func read(t *testing.T, schema string, text string) Update {
	t.Helper()
	old, e, _ := classes.Read(schema)
	if e != api.OK {
		t.Fatalf("P3: the schema %q: %d", schema, e)
	}
	u, e, place := Read(old, text)
	if e != api.OK || place != 0 {
		t.Fatalf("P4: Read(%q) = %d, %d", text, e, place)
	}
	return u
}

// TestReadRefuses: beside an error there is no update.
func TestReadRefuses(t *testing.T) {
	old, _, _ := classes.Read("P{x:w,n:r}")
	for _, c := range []struct {
		text  string
		e     api.Errno
		place int
	}{
		{string(make([]byte, 201)), api.ErrLong, 0},
		{"P{x:w}p", api.ErrSyntax, 6},
		{"P{x:w}P{}", api.ErrTwice, 6},
		{"P{x:w}Q<P{}", api.ErrTwice, 6},
		{"P{x:w}Q<R{}", api.ErrClass, 8},
		{"P{x:w}Q{x:w=x}", api.ErrField, 12},
		{"P{x:w,y:w=n}", api.ErrKind, 10},
	} {
		u, e, place := Read(old, c.text)
		if len(u.makings) != 0 || e != c.e || place != c.place {
			t.Errorf("P4: Read(%q): %d classes, %d, %d, want %d, %d", c.text, len(u.makings), e, place, c.e, c.place)
		}
	}
}

func TestFindTellsWhatASourceBecomes(t *testing.T) {
	u := read(t, "P{x:w}Q{x:w}R{x:w}", "P<Q{x:b}Z<P{x:h}Y{x:l}")
	for _, c := range []struct {
		source byte
		class  byte // 0 if the source vanishes
	}{{'P', 'Z'}, {'Q', 'P'}, {'R', 0}, {'Z', 0}, {'Y', 0}, {0, 0}} {
		m, known := u.Find(c.source)
		if m.class.Letter != c.class || known != (c.class != 0) {
			t.Errorf("Find(%q): %q, %v, want %q", c.source, m.class.Letter, known, c.class)
		}
	}
}

func TestNumberOfTheFieldsPlaces(t *testing.T) {
	u := read(t, "P{a:w,n:r,b:w,c:w}", "P{c:w=a*100+b*10+c,b:b,n:w,m:r=n,d:h=b!}")
	m, _ := u.Find('P')
	for _, c := range []struct {
		field byte
		want  int64
		e     api.Errno
	}{
		{'c', 1*100 + 40000*10 + 3, api.OK},
		{'b', 40000 % 256, api.OK},
		{'n', 0, api.OK},
		{'m', 0, api.ErrKind},
		{'d', 0, api.ErrRange},
		{'a', 0, api.ErrField},
		{0, 0, api.ErrField},
	} {
		v, e := m.Number(c.field, [api.MaxFields]int64{1, 9, 40000, 3})
		if v != c.want || e != c.e {
			t.Errorf("P15: Number(%q) = %d, %d, want %d, %d", c.field, v, e, c.want, c.e)
		}
	}
}

// TestPileIsEmpty: terms that no text gives can do no harm.
func TestPileIsEmpty(t *testing.T) {
	for _, r := range []rule{{}, {terms: []term{{what: '+'}}}, {terms: []term{{what: 'a', index: -1}}}, {terms: []term{{what: 'a', index: 6}}}} {
		if v := r.reckon([api.MaxFields]int64{1, 2, 3, 4, 5, 6}); v != 0 {
			t.Errorf("%v comes to %d", r, v)
		}
	}
}
