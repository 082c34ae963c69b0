package classes

import (
	"reflect"
	"strings"
	"testing"

	"remake/api"
)

func TestReadTellsTheClasses(t *testing.T) {
	s, e, place := Read("P{x:w,n:r}Q{}A{x:b}")
	want := Schema{Classes: []Class{
		{Letter: 'P', Fields: []Field{{'x', 'w'}, {'n', 'r'}}},
		{Letter: 'Q'},
		{Letter: 'A', Fields: []Field{{'x', 'b'}}},
	}}
	if e != api.OK || place != 0 || !reflect.DeepEqual(s, want) {
		t.Errorf("Read: %v, %d, %d, want %v", s, e, place, want)
	}
}

func TestReadTellsNothingWithAnError(t *testing.T) {
	for _, c := range []struct {
		text string
		e    api.Errno
	}{
		{"P{x:w}Q", api.ErrSyntax}, {"P{x:w}P{}", api.ErrTwice}, {"P{x:w}" + strings.Repeat(" ", 200), api.ErrLong},
	} {
		s, e, _ := Read(c.text)
		if e != c.e || s.Classes != nil {
			t.Errorf("Read(%q): %v, %d, want %d", c.text, s, e, c.e)
		}
	}
}

func TestFind(t *testing.T) {
	s, _, _ := Read("P{x:w,n:r}Q{}")
	p, ok := s.Find('P')
	if !ok || p.Letter != 'P' || p.Words() != 3 {
		t.Errorf("Find(P): %v, %v", p, ok)
	}
	q, ok := s.Find('Q')
	if !ok || q.Letter != 'Q' || q.Words() != 1 {
		t.Errorf("Find(Q): %v, %v", q, ok)
	}
	if c, ok := s.Find('R'); ok || c.Fields != nil {
		t.Errorf("Find(R): %v, %v", c, ok)
	}
	for letter, want := range map[byte]int{'x': 0, 'n': 1, 'y': -1, 0: -1} {
		if i := p.Index(letter); i != want {
			t.Errorf("Index(%q) = %d, want %d", letter, i, want)
		}
	}
	for letter, want := range map[byte]byte{'x': 'w', 'n': 'r', 'y': 0, 0: 0} {
		if kind, ok := p.KindOf(letter); kind != want || ok != (want != 0) {
			t.Errorf("KindOf(%q) = %q, %v, want %q", letter, kind, ok, want)
		}
	}
}

// TestWrap: of each kind, the number lies in the kind's range and differs by a multiple of its power of 2.
func TestWrap(t *testing.T) {
	kinds := []struct {
		kind      byte
		bits      uint
		low, high int64
	}{
		{api.Byte, 8, 0, 255}, {api.Half, 16, -1 << 15, 1<<15 - 1}, {api.Word, 32, -1 << 31, 1<<31 - 1},
	}
	for _, k := range kinds {
		for shift := uint(0); shift < 64; shift++ {
			for near := int64(-2); near <= 2; near++ {
				for _, n := range []int64{1<<shift + near, -1<<shift + near, k.low + near, k.high + near} {
					got := Wrap(k.kind, n)
					if got < k.low || got > k.high || uint64(got-n)<<(64-k.bits) != 0 {
						t.Errorf("Wrap(%c, %d) = %d", k.kind, n, got)
					}
					if Wrap(api.Long, n) != n {
						t.Errorf("Wrap(l, %d) = %d", n, Wrap(api.Long, n))
					}
				}
			}
		}
	}
}
