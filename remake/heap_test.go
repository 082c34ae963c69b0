package remake_test

import (
	"math"
	"testing"

	"remake/api"
	"remake/remake"
)

var noRoots = []int{-1, 8, 9, math.MaxInt, math.MinInt}

func made(t *testing.T, schema string, size int) *remake.Heap {
	t.Helper()
	h, e := remake.New(schema, size)
	if h == nil || e != api.OK {
		t.Fatalf("P6: New(%q, %d): %v, %d", schema, size, h != nil, e)
	}
	return h
}

func is(t *testing.T, what string, got api.Errno, want api.Errno) {
	t.Helper()
	if got != want {
		t.Errorf("%s: %d, want %d", what, got, want)
	}
}

func ok(t *testing.T, what string, got api.Errno) {
	t.Helper()
	is(t, what, got, api.OK)
}

func class(t *testing.T, h *remake.Heap, root int, want byte, wantE api.Errno) {
	t.Helper()
	if c, e := h.Class(root); c != want || e != wantE {
		t.Errorf("P8: Class(%d) = %q, %d, want %q, %d", root, c, e, want, wantE)
	}
}

func get(t *testing.T, h *remake.Heap, root int, field byte, want int64, wantE api.Errno) {
	t.Helper()
	if v, e := h.Get(root, field); v != want || e != wantE {
		t.Errorf("P8: Get(%d, %q) = %d, %d, want %d, %d", root, field, v, e, want, wantE)
	}
}

func peek(t *testing.T, h *remake.Heap, root int, field byte, want int64, wantE api.Errno) {
	t.Helper()
	if v, e := h.Peek(root, field); v != want || e != wantE {
		t.Errorf("P15: Peek(%d, %q) = %d, %d, want %d, %d", root, field, v, e, want, wantE)
	}
}

func same(t *testing.T, h *remake.Heap, root int, other int, want bool, wantE api.Errno) {
	t.Helper()
	if s, e := h.Same(root, other); s != want || e != wantE {
		t.Errorf("P10: Same(%d, %d) = %v, %d, want %v, %d", root, other, s, e, want, wantE)
	}
}

func words(t *testing.T, h *remake.Heap, want int) {
	t.Helper()
	if n := h.Words(); n != want {
		t.Errorf("P11: Words() = %d, want %d", n, want)
	}
}

func TestNewRefuses(t *testing.T) {
	for _, c := range []struct {
		schema string
		size   int
		e      api.Errno
	}{
		{"P{}", 0, api.ErrSize}, {"P{}", -1, api.ErrSize}, {"P{}", 201, api.ErrSize},
		{"P{}", math.MaxInt, api.ErrSize}, {"P{}", math.MinInt, api.ErrSize},
		{"", 0, api.ErrSyntax}, {"", 7, api.ErrSyntax},
		{"P{}P{}", 0, api.ErrTwice}, {"P{}P{}", 7, api.ErrTwice},
		{string(make([]byte, 201)), 0, api.ErrLong}, {string(make([]byte, 201)), 7, api.ErrLong},
	} {
		if h, e := remake.New(c.schema, c.size); h != nil || e != c.e {
			t.Errorf("P6: New(%q, %d): %v, %d, want %d", c.schema, c.size, h != nil, e, c.e)
		}
	}
}

func TestNewHeapHoldsNone(t *testing.T) {
	for _, size := range []int{1, 200} {
		h := made(t, "P{x:w,n:r}", size)
		words(t, h, 0)
		for root := 0; root < 8; root++ {
			class(t, h, root, 0, api.ErrNil)
			same(t, h, root, 0, true, api.OK)
		}
	}
}

func TestMakeInEveryRoot(t *testing.T) {
	h := made(t, "P{x:w,n:r}Q{}", 200)
	for root := 0; root < 8; root++ {
		ok(t, "P7: Make", h.Make(root, "PQ"[root%2]))
		class(t, h, root, "PQ"[root%2], api.OK)
		for other := 0; other < root; other++ {
			same(t, h, root, other, false, api.OK)
		}
	}
	words(t, h, 4*3+4*1)
}

func TestMakeFillsTheHeap(t *testing.T) {
	h := made(t, "P{x:w,n:r}Q{}", 7)
	ok(t, "P7: Make", h.Make(0, 'P'))
	ok(t, "P7: Make", h.Make(1, 'P'))
	is(t, "P7: Make of two words too many", h.Make(2, 'P'), api.ErrFull)
	ok(t, "P7: Make that fits just so", h.Make(2, 'Q'))
	is(t, "P7: Make of a word too many", h.Make(3, 'Q'), api.ErrFull)
	class(t, h, 3, 0, api.ErrNil)
	words(t, h, 7)

	is(t, "P7: Make where the root's own object counts", h.Make(2, 'Q'), api.ErrFull)
	class(t, h, 2, 'Q', api.OK)
	ok(t, "P10: Clear", h.Clear(2))
	ok(t, "P7: Make with room again", h.Make(3, 'Q'))
	is(t, "P7: Make of no class, full or not", h.Make(2, 'R'), api.ErrClass)
	is(t, "P7: Make in no root, full or not", h.Make(8, 'R'), api.ErrRoot)
}

func TestMakeLetsGoOfWhatTheRootHeld(t *testing.T) {
	h := made(t, "P{x:w,n:r}", 9)
	ok(t, "P7: Make", h.Make(0, 'P'))
	ok(t, "P7: Make", h.Make(0, 'P'))
	words(t, h, 3)
	ok(t, "P10: Copy", h.Copy(0, 1))
	ok(t, "P8: Put", h.Put(1, 'x', 5))
	ok(t, "P7: Make", h.Make(0, 'P'))
	words(t, h, 6)
	same(t, h, 0, 1, false, api.OK)
	get(t, h, 0, 'x', 0, api.OK)
	get(t, h, 1, 'x', 5, api.OK)
}

// TestMakeOnUsedGround: nothing of what is gone shows in what is made after it.
func TestMakeOnUsedGround(t *testing.T) {
	h := made(t, "P{a:b,b:h,c:w,d:l,n:r}Q{n:r,a:b,m:r,b:h,k:r}", 12)
	for i := 0; i < 500; i++ {
		letter := "PQ"[i%2]
		ok(t, "P7: Make", h.Make(0, letter))
		for _, f := range []byte("abcd") {
			if letter == 'P' || f < 'c' {
				get(t, h, 0, f, 0, api.OK)
				ok(t, "P8: Put", h.Put(0, f, -1))
			}
		}
		for _, f := range []byte("nmk") {
			if letter == 'Q' || f == 'n' {
				ok(t, "P9: Follow", h.Follow(0, f, 1))
				class(t, h, 1, 0, api.ErrNil)
				ok(t, "P9: Link", h.Link(0, f, 0))
			}
		}
		words(t, h, 6)
	}
}

func TestEveryLetterThatIsNone(t *testing.T) {
	h := made(t, "P{x:w,n:r}", 200)
	ok(t, "P7: Make", h.Make(0, 'P'))
	for b := 0; b < 256; b++ {
		letter := byte(b)
		if letter != 'P' {
			is(t, "P7: Make of no class", h.Make(1, letter), api.ErrClass)
			class(t, h, 1, 0, api.ErrNil)
		}
		if letter != 'x' && letter != 'n' {
			get(t, h, 0, letter, 0, api.ErrField)
			is(t, "P8: Put of no field", h.Put(0, letter, 1), api.ErrField)
			is(t, "P9: Follow of no field", h.Follow(0, letter, 0), api.ErrField)
			is(t, "P9: Link of no field", h.Link(0, letter, 0), api.ErrField)
		}
	}
	words(t, h, 3)
	get(t, h, 0, 'x', 0, api.OK)
}

func TestFieldsOfOneClassAreNotThoseOfAnother(t *testing.T) {
	h := made(t, "P{x:w,n:r}Q{n:b,y:r}", 200)
	ok(t, "P7: Make", h.Make(0, 'P'))
	ok(t, "P7: Make", h.Make(1, 'Q'))
	get(t, h, 0, 'y', 0, api.ErrField)
	get(t, h, 1, 'x', 0, api.ErrField)
	get(t, h, 0, 'n', 0, api.ErrKind)
	get(t, h, 1, 'n', 0, api.OK)
	is(t, "P8: Put of a reference", h.Put(0, 'n', 1), api.ErrKind)
	ok(t, "P8: Put", h.Put(1, 'n', 257))
	get(t, h, 1, 'n', 1, api.OK)
	is(t, "P9: Follow of a number", h.Follow(1, 'n', 0), api.ErrKind)
	is(t, "P9: Link of a number", h.Link(1, 'n', 0), api.ErrKind)
	ok(t, "P9: Link", h.Link(1, 'y', 0))
	class(t, h, 0, 'P', api.OK)
}

func TestPutWraps(t *testing.T) {
	h := made(t, "P{b:b,h:h,w:w,l:l}", 5)
	ok(t, "P7: Make", h.Make(0, 'P'))
	for _, c := range []struct {
		field       byte
		value, want int64
	}{
		{'b', 0, 0}, {'b', 255, 255}, {'b', 256, 0}, {'b', -1, 255}, {'b', -256, 0}, {'b', math.MaxInt64, 255}, {'b', math.MinInt64, 0},
		{'h', 32767, 32767}, {'h', 32768, -32768}, {'h', -32768, -32768}, {'h', -32769, 32767}, {'h', 65536, 0}, {'h', math.MaxInt64, -1},
		{'w', 2147483647, 2147483647}, {'w', 2147483648, -2147483648}, {'w', -2147483648, -2147483648}, {'w', -2147483649, 2147483647}, {'w', 4294967296, 0}, {'w', math.MinInt64, 0},
		{'l', math.MaxInt64, math.MaxInt64}, {'l', math.MinInt64, math.MinInt64}, {'l', -1, -1}, {'l', 4294967296, 4294967296},
	} {
		ok(t, "P8: Put", h.Put(0, c.field, c.value))
		get(t, h, 0, c.field, c.want, api.OK)
	}
	get(t, h, 0, 'b', 0, api.OK)
	get(t, h, 0, 'h', -1, api.OK)
	get(t, h, 0, 'w', 0, api.OK)
}

func TestPutThroughOneRootShowsThroughAnother(t *testing.T) {
	h := made(t, "P{x:w,n:r}", 200)
	ok(t, "P7: Make", h.Make(0, 'P'))
	ok(t, "P7: Make", h.Make(1, 'P'))
	ok(t, "P10: Copy", h.Copy(0, 7))
	ok(t, "P8: Put", h.Put(7, 'x', 9))
	get(t, h, 0, 'x', 9, api.OK)
	get(t, h, 1, 'x', 0, api.OK)
}

func TestFollowAndLink(t *testing.T) {
	h := made(t, "P{x:w,n:r,m:r}", 200)
	ok(t, "P7: Make", h.Make(0, 'P'))
	ok(t, "P7: Make", h.Make(1, 'P'))
	ok(t, "P9: Link", h.Link(0, 'n', 1))
	ok(t, "P9: Link to itself", h.Link(0, 'm', 0))
	ok(t, "P9: Follow", h.Follow(0, 'n', 2))
	same(t, h, 1, 2, true, api.OK)
	ok(t, "P9: Follow", h.Follow(0, 'm', 3))
	same(t, h, 0, 3, true, api.OK)
	ok(t, "P9: Follow of none", h.Follow(1, 'n', 2))
	class(t, h, 2, 0, api.ErrNil)
	ok(t, "P9: Follow into its own root", h.Follow(0, 'n', 0))
	same(t, h, 0, 1, true, api.OK)
	ok(t, "P9: Link to none", h.Link(3, 'n', 2))
	ok(t, "P9: Follow of none", h.Follow(3, 'n', 3))
	class(t, h, 3, 0, api.ErrNil)
	words(t, h, 4)
}

// TestLinkHoldsTheObjectNotTheRoot: what the root holds later does not matter to the field.
func TestLinkHoldsTheObjectNotTheRoot(t *testing.T) {
	h := made(t, "P{x:w,n:r}", 200)
	ok(t, "P7: Make", h.Make(0, 'P'))
	ok(t, "P7: Make", h.Make(1, 'P'))
	ok(t, "P8: Put", h.Put(1, 'x', 5))
	ok(t, "P9: Link", h.Link(0, 'n', 1))
	ok(t, "P7: Make", h.Make(1, 'P'))
	ok(t, "P9: Follow", h.Follow(0, 'n', 2))
	get(t, h, 2, 'x', 5, api.OK)
	same(t, h, 1, 2, false, api.OK)
}

func TestCopyClearSame(t *testing.T) {
	h := made(t, "P{x:w}", 200)
	ok(t, "P7: Make", h.Make(0, 'P'))
	ok(t, "P10: Copy to itself", h.Copy(0, 0))
	class(t, h, 0, 'P', api.OK)
	ok(t, "P10: Copy", h.Copy(0, 7))
	same(t, h, 0, 7, true, api.OK)
	same(t, h, 0, 0, true, api.OK)
	same(t, h, 0, 1, false, api.OK)
	same(t, h, 1, 0, false, api.OK)
	same(t, h, 1, 2, true, api.OK)
	ok(t, "P10: Clear", h.Clear(0))
	class(t, h, 0, 0, api.ErrNil)
	class(t, h, 7, 'P', api.OK)
	ok(t, "P10: Clear of none", h.Clear(0))
	ok(t, "P10: Copy of none", h.Copy(0, 7))
	class(t, h, 7, 0, api.ErrNil)
	words(t, h, 0)
}

// TestFirstNamedErrorOfSeveral: each call has all the errors that can go together.
func TestFirstNamedErrorOfSeveral(t *testing.T) {
	h := made(t, "P{x:w,n:r}Q{}", 3)
	ok(t, "P7: Make", h.Make(0, 'P'))
	for _, no := range noRoots {
		is(t, "P7: Make in no root", h.Make(no, 'P'), api.ErrRoot)
		is(t, "P7: Make in no root of no class", h.Make(no, '?'), api.ErrRoot)
		class(t, h, no, 0, api.ErrRoot)
		get(t, h, no, '?', 0, api.ErrRoot)
		is(t, "P8: Put of no root", h.Put(no, '?', 1), api.ErrRoot)
		is(t, "P9: Follow of no root", h.Follow(no, '?', 0), api.ErrRoot)
		is(t, "P9: Follow of none to no root", h.Follow(1, '?', no), api.ErrRoot)
		is(t, "P9: Follow of no field to no root", h.Follow(0, '?', no), api.ErrRoot)
		is(t, "P9: Follow of a number to no root", h.Follow(0, 'x', no), api.ErrRoot)
		is(t, "P9: Follow to no root", h.Follow(0, 'n', no), api.ErrRoot)
		is(t, "P9: Link of no root", h.Link(no, '?', 0), api.ErrRoot)
		is(t, "P9: Link of none from no root", h.Link(1, '?', no), api.ErrRoot)
		is(t, "P9: Link of no field from no root", h.Link(0, '?', no), api.ErrRoot)
		is(t, "P9: Link of a number from no root", h.Link(0, 'x', no), api.ErrRoot)
		is(t, "P9: Link from no root", h.Link(0, 'n', no), api.ErrRoot)
		is(t, "P10: Copy of no root", h.Copy(no, 0), api.ErrRoot)
		is(t, "P10: Copy to no root", h.Copy(0, no), api.ErrRoot)
		is(t, "P10: Copy of none to no root", h.Copy(1, no), api.ErrRoot)
		is(t, "P10: Clear of no root", h.Clear(no), api.ErrRoot)
		same(t, h, no, 0, false, api.ErrRoot)
		same(t, h, 0, no, false, api.ErrRoot)
		same(t, h, no, no, false, api.ErrRoot)
	}
	get(t, h, 1, '?', 0, api.ErrNil)
	is(t, "P8: Put of none", h.Put(1, '?', 1), api.ErrNil)
	is(t, "P9: Follow of none", h.Follow(1, '?', 0), api.ErrNil)
	is(t, "P9: Link of none", h.Link(1, '?', 0), api.ErrNil)
	is(t, "P7: Make of no class in a full heap", h.Make(1, '?'), api.ErrClass)
	is(t, "P7: Make in a full heap", h.Make(1, 'Q'), api.ErrFull)
	class(t, h, 0, 'P', api.OK)
	class(t, h, 1, 0, api.ErrNil)
	words(t, h, 3)
}

func TestWordsCountWhatIsThereOnce(t *testing.T) {
	h := made(t, "P{n:r,m:r}Q{}", 200)
	ok(t, "P7: Make", h.Make(0, 'P'))
	ok(t, "P7: Make", h.Make(1, 'Q'))
	ok(t, "P9: Link", h.Link(0, 'n', 1))
	ok(t, "P9: Link", h.Link(0, 'm', 1))
	words(t, h, 4)
	ok(t, "P10: Clear", h.Clear(1))
	words(t, h, 4)
	ok(t, "P9: Link", h.Link(0, 'n', 5))
	words(t, h, 4)
	ok(t, "P9: Link", h.Link(0, 'm', 5))
	words(t, h, 3)
}

// TestRingIsGone: objects that refer to one another are gone all the same, when no root reaches them.
func TestRingIsGone(t *testing.T) {
	h := made(t, "P{n:r}", 6)
	for i := 0; i < 300; i++ {
		ok(t, "P7: Make", h.Make(0, 'P'))
		ok(t, "P7: Make", h.Make(1, 'P'))
		ok(t, "P7: Make", h.Make(2, 'P'))
		ok(t, "P9: Link", h.Link(0, 'n', 1))
		ok(t, "P9: Link", h.Link(1, 'n', 2))
		ok(t, "P9: Link", h.Link(2, 'n', 0))
		ok(t, "P10: Clear", h.Clear(0))
		ok(t, "P10: Clear", h.Clear(1))
		words(t, h, 6)
		ok(t, "P10: Clear", h.Clear(2))
		words(t, h, 0)
	}
}

// TestLongestChain: as many objects as can be there, each reached over the one ahead of it alone.
func TestLongestChain(t *testing.T) {
	h := made(t, "P{n:r}Q{}", 200)
	for round := 0; round < 3; round++ {
		for i := 0; i < 100; i++ {
			ok(t, "P7: Make", h.Make(1, 'P'))
			ok(t, "P9: Link", h.Link(1, 'n', 0))
			ok(t, "P10: Copy", h.Copy(1, 0))
			ok(t, "P10: Clear", h.Clear(1))
			words(t, h, 2*(i+1))
		}
		is(t, "P7: Make in a full heap", h.Make(1, 'Q'), api.ErrFull)
		for i := 99; i >= 0; i-- {
			ok(t, "P9: Follow", h.Follow(0, 'n', 0))
			words(t, h, 2*i)
		}
		class(t, h, 0, 0, api.ErrNil)
	}
}
