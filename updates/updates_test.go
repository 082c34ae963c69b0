package updates

import (
	"slices"
	"testing"

	"remake/api"
	"remake/classes"
)

func read(t *testing.T, schema string, text string) Update {
	t.Helper()
	old, e, _ := classes.Read(schema)
	if e != api.OK {
		t.Fatalf("P3: the schema %q: %d", schema, e)
	}
	u, e, place := Read(old, text)
	if e != api.OK || place != 0 {
		t.Fatalf("P4: Read(%q) = %d, %d", text, e, place)
	}
	return u
}

// TestReadRefuses: beside an error there is no update.
func TestReadRefuses(t *testing.T) {
	old, _, _ := classes.Read("P{x:w,n:r}")
	for _, c := range []struct {
		text  string
		e     api.Errno
		place int
	}{
		{string(make([]byte, 201)), api.ErrLong, 0},
		{"P{x:w}p", api.ErrSyntax, 6},
		{"P{x:w}P{}", api.ErrTwice, 6},
		{"P{x:w}Q<P{}", api.ErrTwice, 6},
		{"P{x:w}Q<R{}", api.ErrClass, 8},
		{"P{x:w}Q{x:w=x}", api.ErrField, 12},
		{"P{x:w,y:w=n}", api.ErrKind, 10},
	} {
		u, e, place := Read(old, c.text)
		if len(u.makings) != 0 || e != c.e || place != c.place {
			t.Errorf("P4: Read(%q): %d classes, %d, %d, want %d, %d", c.text, len(u.makings), e, place, c.e, c.place)
		}
	}
}

func TestFindTellsWhatASourceBecomes(t *testing.T) {
	u := read(t, "P{x:w}Q{x:w}R{x:w}", "P<Q{x:b}Z<P{x:h}Y{x:l}")
	for _, c := range []struct {
		source byte
		class  byte // 0 if the source vanishes
	}{{'P', 'Z'}, {'Q', 'P'}, {'R', 0}, {'Z', 0}, {'Y', 0}, {0, 0}} {
		m, known := u.Find(c.source)
		if m.class.Letter != c.class || known != (c.class != 0) {
			t.Errorf("Find(%q): %q, %v, want %q", c.source, m.class.Letter, known, c.class)
		}
	}
}

func TestNumberOfTheFieldsPlaces(t *testing.T) {
	u := read(t, "P{a:w,n:r,b:w,c:w}", "P{c:w=a*100+b*10+c,b:b,n:w,m:r=n,d:h=b!}")
	m, _ := u.Find('P')
	for _, c := range []struct {
		field byte
		want  int64
		e     api.Errno
	}{
		{'c', 1*100 + 40000*10 + 3, api.OK},
		{'b', 40000 % 256, api.OK},
		{'n', 0, api.OK},
		{'m', 0, api.ErrKind},
		{'d', 0, api.ErrRange},
		{'a', 0, api.ErrField},
		{0, 0, api.ErrField},
	} {
		v, e := m.Number(c.field, [api.MaxFields]int64{1, 9, 40000, 3})
		if v != c.want || e != c.e {
			t.Errorf("P15: Number(%q) = %d, %d, want %d, %d", c.field, v, e, c.want, c.e)
		}
	}
}

func TestNumbersTellsAllOrFails(t *testing.T) {
	u := read(t, "P{a:w,n:r,b:w}", "P{x:w=a-b,n:r,b:b,y:h=a!,c:l}")
	m, _ := u.Find('P')
	for _, c := range []struct {
		old  [api.MaxFields]int64
		want [api.MaxFields]int64
		e    api.Errno
	}{
		{[api.MaxFields]int64{7, 9, 300}, [api.MaxFields]int64{-293, 0, 44, 7, 0}, api.OK},
		{[api.MaxFields]int64{32767, 0, 1}, [api.MaxFields]int64{32766, 0, 1, 32767, 0}, api.OK},
		{[api.MaxFields]int64{32768, 0, 1}, [api.MaxFields]int64{}, api.ErrRange},
	} {
		got, e := m.Numbers(c.old)
		if got != c.want || e != c.e {
			t.Errorf("P14: Numbers(%v) = %v, %d, want %v, %d", c.old, got, e, c.want, c.e)
		}
	}
}

func TestRefsTellsWhatIsTaken(t *testing.T) {
	u := read(t, "P{n:r,a:w,m:r,k:r}", "Q<P{m:r,b:b=a,z:r=n,k:r=0,a:r,n:w}R{m:r}")
	m, _ := u.Find('P')
	want := [api.MaxFields]int{3, 0, 1, 0, 0, 0}
	if got := m.Refs([api.MaxFields]int{1, 2, 3, 4, 5, 6}); got != want {
		t.Errorf("P14: Refs tells %v, want %v", got, want)
	}
	if m.Letter() != 'Q' {
		t.Errorf("P14: the new class is %q", m.Letter())
	}
}

// TestSchemaIsThatOfTheText: as if what stands behind "=" and "<" were not there.
func TestSchemaIsThatOfTheText(t *testing.T) {
	u := read(t, "P{x:w,n:r}Q{}R{}", "Z{b:l,c:r=0}Q<P{x:b=x*2+1!,m:r=n}P<Q{}")
	got := u.Schema()
	want, _, _ := classes.Read("Z{b:l,c:r}Q{x:b,m:r}P{}")
	if len(got.Classes) != len(want.Classes) {
		t.Fatalf("P14: the schema is %v, want %v", got, want)
	}
	for i, c := range want.Classes {
		if got.Classes[i].Letter != c.Letter || !slices.Equal(got.Classes[i].Fields, c.Fields) {
			t.Errorf("P14: the class at %d is %v, want %v", i, got.Classes[i], c)
		}
	}
}

// TestRulesOfNoText: terms that no text gives can do no harm.
func TestRulesOfNoText(t *testing.T) {
	for _, r := range []rule{{}, {terms: []term{{what: '+'}}}, {terms: []term{{what: 'a', index: -1}}}, {terms: []term{{what: 'a', index: 6}}}} {
		if v := r.reckon([api.MaxFields]int64{1, 2, 3, 4, 5, 6}); v != 0 {
			t.Errorf("%v comes to %d", r, v)
		}
	}
	for _, r := range []rule{{}, {terms: []term{{what: 'a'}, {what: 'a'}}}, {terms: []term{{what: '0'}}}, {terms: []term{{what: 'a', index: -1}}}, {terms: []term{{what: 'a', index: 6}}}} {
		if ref := r.take([api.MaxFields]int{1, 2, 3, 4, 5, 6}); ref != 0 {
			t.Errorf("%v takes %d", r, ref)
		}
	}
}
