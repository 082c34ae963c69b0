package remake_test

import (
	"math"
	"testing"

	"remake/api"
	"remake/remake"
)

func commit(t *testing.T, h *remake.Heap, want api.Errno) {
	t.Helper()
	is(t, "P14: Commit", h.Commit(), want)
}

// done: an update from its Begin to its end.
func done(t *testing.T, h *remake.Heap, update string, want api.Errno) {
	t.Helper()
	begin(t, h, update, api.OK, 0)
	step(t, h, 200, true, api.OK)
	is(t, "P14: Commit of "+update, h.Commit(), want)
	commit(t, h, api.ErrIdle)
}

// linked: a new object of the class in the root, to which the field of another root's object refers.
func linked(t *testing.T, h *remake.Heap, from int, field byte, root int, letter byte) {
	t.Helper()
	ok(t, "P7: Make", h.Make(root, letter))
	ok(t, "P9: Link", h.Link(from, field, root))
}

// refers: the field of a root's object refers to what another root holds.
func refers(t *testing.T, h *remake.Heap, root int, field byte, other int) {
	t.Helper()
	ok(t, "P9: Follow", h.Follow(root, field, 7))
	same(t, h, 7, other, true, api.OK)
	ok(t, "P10: Clear", h.Clear(7))
}

// chain: objects of the class, each reached over the one ahead of it alone, the first from root 0; x counts them.
func chain(t *testing.T, h *remake.Heap, letter byte, length int) {
	t.Helper()
	for i := range length {
		ok(t, "P7: Make", h.Make(1, letter))
		ok(t, "P8: Put", h.Put(1, 'x', int64(length-i)))
		ok(t, "P9: Link", h.Link(1, 'n', 0))
		ok(t, "P10: Copy", h.Copy(1, 0))
		ok(t, "P10: Clear", h.Clear(1))
	}
}

// TestExampleOfTheDocument: the last paragraph of 'Examples', call by call.
func TestExampleOfTheDocument(t *testing.T) {
	h := made(t, "P{x:w,n:r}", 7)
	ok(t, "P7: Make", h.Make(0, 'P'))
	ok(t, "P8: Put", h.Put(0, 'x', 2147483648))
	get(t, h, 0, 'x', -2147483648, api.OK)
	linked(t, h, 0, 'n', 1, 'P')
	ok(t, "P9: Link", h.Link(1, 'n', 0))
	ok(t, "P10: Clear", h.Clear(1))
	words(t, h, 6)
	is(t, "P7: Make", h.Make(1, 'P'), api.ErrFull)
	begin(t, h, "P{x:b=x+1,n:r}Q{}", api.OK, 0)
	step(t, h, 200, true, api.OK)
	ok(t, "P8: Put", h.Put(0, 'x', 299))
	peek(t, h, 0, 'x', 44, api.OK)
	commit(t, h, api.OK)
	get(t, h, 0, 'x', 44, api.OK)
	ok(t, "P9: Follow", h.Follow(0, 'n', 1))
	get(t, h, 1, 'x', 1, api.OK)
	ok(t, "P9: Follow", h.Follow(1, 'n', 2))
	same(t, h, 0, 2, true, api.OK)
	done(t, h, "P{x:b=x*6!,n:r}", api.ErrRange)
	get(t, h, 0, 'x', 44, api.OK)
	done(t, h, "P{a:w,b:w,x:b,n:r}", api.ErrFull)
	done(t, h, "Q{}", api.OK)
	class(t, h, 0, 0, api.ErrNil)
	words(t, h, 0)
}

func TestCommitOfNone(t *testing.T) {
	h := begun(t, "P{x:w,y:w}", 5, 6, "P{x:w=x+1}")
	abort(t, h, api.OK)
	commit(t, h, api.ErrIdle)
	step(t, h, 200, false, api.ErrIdle)
	commit(t, h, api.ErrIdle)
	begin(t, h, "P{x:w=q}", api.ErrField, 6)
	commit(t, h, api.ErrIdle)
	get(t, h, 0, 'x', 5, api.OK)
	commit(t, made(t, "P{}", 1), api.ErrIdle)
}

// TestCommitTooEarly: it goes on pending. What an earlier update was ready for is nothing to a later one.
func TestCommitTooEarly(t *testing.T) {
	h := made(t, "P{x:w,y:w}", 5)
	ok(t, "P7: Make", h.Make(0, 'P'))
	for _, end := range []string{"abort", "fails", "is full", "commit"} {
		begin(t, h, "P{x:w=x+1,y:w=200!}", api.OK, 0)
		x, _ := h.Get(0, 'x')
		for range 2 {
			commit(t, h, api.ErrEarly)
			step(t, h, 0, false, api.ErrBudget)
			step(t, h, -200, false, api.ErrBudget)
			commit(t, h, api.ErrEarly)
			begin(t, h, "P{x:w=x+1}", api.ErrBusy, 0)
			get(t, h, 0, 'x', x, api.OK)
			peek(t, h, 0, 'x', x+1, api.OK)
		}
		step(t, h, 200, true, api.OK)
		step(t, h, 0, false, api.ErrBudget)
		switch end {
		case "abort":
			abort(t, h, api.OK)
		case "fails":
			abort(t, h, api.OK)
			done(t, h, "P{x:b=256!,y:w}", api.ErrRange)
		case "is full":
			abort(t, h, api.OK)
			done(t, h, "P{x:w,y:w,a:b,b:b,c:b}", api.ErrFull)
		default:
			commit(t, h, api.OK)
			get(t, h, 0, 'x', x+1, api.OK)
		}
	}
	begin(t, h, "P{}", api.OK, 0)
	commit(t, h, api.ErrEarly)
}

// TestCommittedIsOver: and the next one is an update to the new schema.
func TestCommittedIsOver(t *testing.T) {
	h := begun(t, "P{x:w,y:w}Q{z:w}", 5, 6, "Q<P{a:w=x+y,n:r}R{}")
	step(t, h, 200, true, api.OK)
	commit(t, h, api.OK)
	commit(t, h, api.ErrIdle)
	abort(t, h, api.ErrIdle)
	step(t, h, 200, false, api.ErrIdle)
	peek(t, h, 0, 'a', 0, api.ErrIdle)
	class(t, h, 0, 'Q', api.OK)
	begin(t, h, "P<P{}", api.ErrClass, 2)
	begin(t, h, "Q{a:w=z}", api.ErrField, 6)
	begin(t, h, "Q{a:w=x}", api.ErrField, 6)
	begin(t, h, "R{a:w=a}", api.ErrField, 6)
	begin(t, h, "Q{a:w=n}", api.ErrKind, 6)
	begin(t, h, "Q{}Z<Q{}", api.ErrTwice, 3)
	begin(t, h, "P{}Z<Q{b:l=a*2,n:r}", api.OK, 0)
	peek(t, h, 0, 'b', 22, api.OK)
	step(t, h, 200, true, api.OK)
	commit(t, h, api.OK)
	class(t, h, 0, 'Z', api.OK)
	get(t, h, 0, 'b', 22, api.OK)
	get(t, h, 0, 'a', 0, api.ErrField)
}

// TestCommitMakesTheNewSchema: what can be made, and of which kinds its fields are, is as the new classes say.
func TestCommitMakesTheNewSchema(t *testing.T) {
	h := made(t, "P{x:w}Q{y:r}R{}", 20)
	done(t, h, "Q<P{a:b=x}S<R{z:l=7,y:h,n:r=0,m:r}T{x:b=5!,n:r=0}", api.OK)
	for _, letter := range []byte("PR") {
		is(t, "P7: Make of an old class", h.Make(0, letter), api.ErrClass)
	}
	for root, letter := range []byte("QST") {
		ok(t, "P7: Make of a new class", h.Make(root, letter))
		class(t, h, root, letter, api.OK)
	}
	words(t, h, 2+5+3)
	for _, c := range []struct {
		root  int
		field byte
		want  int64 // what -1 becomes there
	}{{0, 'a', 255}, {1, 'z', -1}, {1, 'y', -1}, {2, 'x', 255}} {
		get(t, h, c.root, c.field, 0, api.OK)
		ok(t, "P8: Put", h.Put(c.root, c.field, -1))
		get(t, h, c.root, c.field, c.want, api.OK)
	}
	ok(t, "P9: Link", h.Link(1, 'm', 2))
	refers(t, h, 1, 'm', 2)
	get(t, h, 0, 'x', 0, api.ErrField)
	get(t, h, 1, 'n', 0, api.ErrKind)
	is(t, "P9: Link of a number", h.Link(1, 'y', 0), api.ErrKind)
}

func TestCommitOfSums(t *testing.T) {
	const most, least = math.MaxInt64, math.MinInt64
	for _, c := range []struct {
		x, y int64
		rule string
		want int64
		e    api.Errno
	}{
		{3, 4, "l=7", 7, api.OK},
		{3, 4, "l=10-2*x*y-1", -15, api.OK},
		{3, 4, "l=2*(x+y)-(y-x)", 13, api.OK},
		{most, 1, "l=x+y!", least, api.OK},
		{300, 2, "b=x*y", 600 - 2*256, api.OK},
		{255, 1, "b=x!", 255, api.OK}, {255, 1, "b=x+y", 0, api.OK}, {255, 1, "b=x+y!", 0, api.ErrRange},
		{0, 1, "b=x!", 0, api.OK}, {0, 1, "b=x-y", 255, api.OK}, {0, 1, "b=x-y!", 0, api.ErrRange},
		{32767, 1, "h=x!", 32767, api.OK}, {32767, 1, "h=x+y", -32768, api.OK}, {32767, 1, "h=x+y!", 0, api.ErrRange},
		{-32768, 1, "h=x!", -32768, api.OK}, {-32768, 1, "h=x-y!", 0, api.ErrRange},
		{2147483647, 1, "w=x!", 2147483647, api.OK}, {2147483647, 1, "w=x+y", -2147483648, api.OK}, {2147483647, 1, "w=x+y!", 0, api.ErrRange},
		{-2147483648, 1, "w=x!", -2147483648, api.OK}, {-2147483648, 1, "w=x-y!", 0, api.ErrRange},
		{least, 1, "l=x-y!", most, api.OK},
		{1 << 32, 1 << 32, "b=x*y+255!", 255, api.OK},
	} {
		h := begun(t, "P{n:r,x:l,y:l}", c.x, c.y, "P{n:r,z:"+c.rule+"}")
		step(t, h, 200, true, api.OK)
		commit(t, h, c.e)
		if c.e != api.OK {
			get(t, h, 0, 'x', c.x, api.OK)
			get(t, h, 0, 'y', c.y, api.OK)
			get(t, h, 0, 'z', 0, api.ErrField)
			continue
		}
		get(t, h, 0, 'z', c.want, api.OK)
		get(t, h, 0, 'x', 0, api.ErrField)
	}
}

// TestCommitOfFieldsWithoutSum: numbers wrap, references stay, and where one becomes the other it is 0 or none.
func TestCommitOfFieldsWithoutSum(t *testing.T) {
	h := made(t, "P{a:l,n:r,b:w,m:r,c:l}", 200)
	ok(t, "P7: Make", h.Make(0, 'P'))
	for _, field := range []byte("abc") {
		ok(t, "P8: Put", h.Put(0, field, -70001))
	}
	linked(t, h, 0, 'n', 1, 'P')
	ok(t, "P9: Link", h.Link(0, 'm', 0))
	done(t, h, "P{m:r,c:r,b:b,n:w,a:h,d:r}", api.OK)
	get(t, h, 0, 'a', -4465, api.OK)
	get(t, h, 0, 'b', 143, api.OK)
	get(t, h, 0, 'n', 0, api.OK)
	refers(t, h, 0, 'm', 0)
	refers(t, h, 0, 'c', 6)
	refers(t, h, 0, 'd', 6)
	class(t, h, 1, 'P', api.OK)
	words(t, h, 14)

	// What was a number once is none of the references, and the other way round.
	done(t, h, "P{a:r,b:r,c:w,n:r,m:l,d:b}", api.OK)
	for _, field := range []byte("abn") {
		refers(t, h, 0, field, 6)
	}
	for _, field := range []byte("cmd") {
		get(t, h, 0, field, 0, api.OK)
	}
}

func TestCommitOfReferences(t *testing.T) {
	h := made(t, "P{x:w,n:r,m:r,k:r}", 200)
	ok(t, "P7: Make", h.Make(0, 'P'))
	linked(t, h, 0, 'n', 1, 'P')
	linked(t, h, 0, 'm', 2, 'P')
	ok(t, "P9: Link", h.Link(0, 'k', 0))
	done(t, h, "P{a:r=k,n:r=m,m:r=n,k:r=0,b:r=n,c:r=m}", api.OK)
	refers(t, h, 0, 'a', 0)
	refers(t, h, 0, 'n', 2)
	refers(t, h, 0, 'm', 1)
	refers(t, h, 0, 'k', 6)
	refers(t, h, 0, 'b', 1)
	refers(t, h, 0, 'c', 2)
	for _, field := range []byte("anmkbc") {
		refers(t, h, 1, field, 6)
	}
	words(t, h, 21)
}

// TestCommittedObjectsAreTheSame: rings, an object that refers to itself and one that several refer to stay so.
func TestCommittedObjectsAreTheSame(t *testing.T) {
	h := made(t, "P{x:w,n:r}Q{n:r,m:r}", 200)
	ok(t, "P7: Make", h.Make(0, 'P'))
	linked(t, h, 0, 'n', 1, 'Q')
	ok(t, "P9: Link", h.Link(1, 'n', 0))
	ok(t, "P9: Link", h.Link(1, 'm', 1))
	ok(t, "P10: Copy", h.Copy(1, 2))
	for i := range 20 {
		done(t, h, []string{"Q<P{n:r,y:l}P<Q{m:r=n,n:r=m}", "P<Q{y:b,n:r}Q<P{n:r=m,m:r=n,a:l}"}[i%2], api.OK)
		same(t, h, 0, 1, false, api.OK)
		same(t, h, 1, 2, true, api.OK)
		same(t, h, 0, 3, false, api.OK)
		refers(t, h, 0, 'n', 1)
		refers(t, h, 1, []byte("mn")[i%2], 0)
		refers(t, h, 1, []byte("nm")[i%2], 1)
	}
}

// TestCommitWithAllThatWasWritten: an update remakes what is there in the end, as it is in the end, ready or not.
func TestCommitWithAllThatWasWritten(t *testing.T) {
	h := begun(t, "P{x:w,y:w,n:r}", 1, 2, "P{x:l=x*10,n:r,o:w=y}")
	for root := 1; root < 5; root++ {
		ok(t, "P7: Make", h.Make(root, 'P'))
		ok(t, "P8: Put", h.Put(root, 'x', int64(root)))
		step(t, h, 50, true, api.OK)
	}
	ok(t, "P8: Put", h.Put(0, 'x', 100))
	ok(t, "P8: Put", h.Put(0, 'y', -3))
	ok(t, "P8: Put", h.Put(3, 'x', 300))
	ok(t, "P9: Link", h.Link(0, 'n', 2))
	ok(t, "P10: Clear", h.Clear(2))
	ok(t, "P10: Copy", h.Copy(3, 5))
	ok(t, "P10: Clear", h.Clear(4))
	commit(t, h, api.OK)
	get(t, h, 0, 'x', 1000, api.OK)
	get(t, h, 0, 'o', -3, api.OK)
	get(t, h, 1, 'x', 10, api.OK)
	get(t, h, 3, 'x', 3000, api.OK)
	same(t, h, 3, 5, true, api.OK)
	ok(t, "P9: Follow", h.Follow(0, 'n', 2))
	get(t, h, 2, 'x', 20, api.OK)
	class(t, h, 4, 0, api.ErrNil)
	words(t, h, 16)
}

// TestVanished: what vanishes is gone out of roots and references, and what was reached over it alone is too.
func TestVanished(t *testing.T) {
	h := made(t, "P{n:r,m:r}Q{n:r}", 9)
	ok(t, "P7: Make", h.Make(0, 'P'))
	linked(t, h, 0, 'n', 1, 'Q')
	linked(t, h, 1, 'n', 2, 'P')
	ok(t, "P9: Link", h.Link(0, 'm', 0))
	ok(t, "P9: Link", h.Link(2, 'n', 0))
	ok(t, "P10: Clear", h.Clear(2))
	words(t, h, 8)
	done(t, h, "P{n:r,m:r}R{}", api.OK)
	words(t, h, 3)
	class(t, h, 1, 0, api.ErrNil)
	refers(t, h, 0, 'n', 1)
	refers(t, h, 0, 'm', 0)
	is(t, "P7: Make of a class that has vanished", h.Make(1, 'Q'), api.ErrClass)
	for i := range 6 {
		ok(t, "P7: Make", h.Make(1+i, 'R'))
	}
	is(t, "P7: Make", h.Make(7, 'R'), api.ErrFull)
	class(t, h, 0, 'P', api.OK)
	refers(t, h, 0, 'n', 7)
}

// TestVanishedOrRenamed: an object goes with its class, whatever other class takes that one's Letter.
func TestVanishedOrRenamed(t *testing.T) {
	for _, c := range []struct {
		update string
		p, q   byte // what these become, 0 if they vanish
	}{
		{"P<Q{y:w=x}", 0, 'P'},
		{"Q<P{y:w=x}", 'Q', 0},
		{"P<Q{y:w=x}Q<P{y:w=x}", 'Q', 'P'},
		{"Q<P{y:w=x}P<Q{y:w=x}", 'Q', 'P'},
		{"R<Q{y:w=x}P{y:w=x}", 'P', 'R'},
		{"R<Q{y:w=x}P<P{y:w=x}", 'P', 'R'},
		{"R{y:w}", 0, 0},
		{"R{y:w}Q{y:w=x}", 0, 'Q'},
	} {
		h := made(t, "P{x:w}Q{x:w}", 200)
		ok(t, "P7: Make", h.Make(0, 'P'))
		ok(t, "P7: Make", h.Make(1, 'Q'))
		ok(t, "P8: Put", h.Put(0, 'x', 5))
		ok(t, "P8: Put", h.Put(1, 'x', 6))
		done(t, h, c.update, api.OK)
		for root, letter := range []byte{c.p, c.q} {
			if letter == 0 {
				class(t, h, root, 0, api.ErrNil)
				continue
			}
			class(t, h, root, letter, api.OK)
			get(t, h, root, 'y', int64(5+root), api.OK)
		}
	}
}

// branched: a heap of 22 words, of which root 0 holds the first object, and no other root one:
// 0 (P) n 1 (P) m 2 (P), and 1 q 3 (Q) n 4 (P); and 5 (P), which is not there.
// The x of the one with that number is 256.
func branched(t *testing.T, size int, great int) *remake.Heap {
	t.Helper()
	h := made(t, "P{x:w,n:r,m:r,q:r}Q{n:r}", size)
	ok(t, "P7: Make", h.Make(5, 'P'))
	if great == 5 {
		ok(t, "P8: Put", h.Put(5, 'x', 256))
	}
	ok(t, "P10: Clear", h.Clear(5))
	ok(t, "P7: Make", h.Make(0, 'P'))
	linked(t, h, 0, 'n', 1, 'P')
	linked(t, h, 1, 'm', 2, 'P')
	linked(t, h, 1, 'q', 3, 'Q')
	linked(t, h, 3, 'n', 4, 'P')
	if great < 5 {
		ok(t, "P8: Put", h.Put(great, 'x', 256))
	}
	for root := 1; root < 5; root++ {
		ok(t, "P10: Clear", h.Clear(root))
	}
	words(t, h, 22)
	return h
}

// TestFailsAtWhatIsThere: be it far away, or there no more when all is remade; and at nothing else.
func TestFailsAtWhatIsThere(t *testing.T) {
	for _, c := range []struct {
		update string
		great  int
		e      api.Errno
	}{
		{"P{x:b=x!,n:r,m:r,q:r}Q{n:r}", 0, api.ErrRange},
		{"P{x:b=x!,n:r,m:r,q:r}Q{n:r}", 1, api.ErrRange},
		{"P{x:b=x!,n:r,m:r,q:r}Q{n:r}", 2, api.ErrRange},
		{"P{x:b=x!,n:r,m:r,q:r}Q{n:r}", 4, api.ErrRange},
		{"P{x:b=x!,n:r,m:r,q:r}Q{n:r}", 5, api.OK}, // is not there
		{"P{x:b=x,n:r,m:r,q:r}Q{n:r}", 4, api.OK},
		{"P{x:h=x!,n:r,m:r,q:r}Q{n:r}", 4, api.OK},
		{"P{n:r,m:r,q:r,x:b=x,y:b=x!}Q{n:r}", 4, api.ErrRange},
		{"P{x:b=x!}Q{n:r}", 4, api.ErrRange}, // all references to them are dropped
		{"P{x:b=x!,n:r,m:r=0,q:r}Q{n:r}", 2, api.ErrRange},
		{"P{x:b=x!,n:r,m:r,q:r}", 4, api.ErrRange}, // over a class that vanishes
		{"P{x:b=x!,n:r,m:r,q:r}", 5, api.OK},
		{"P{x:b=x!,n:r,m:r,q:r}Q{n:r=0}", 4, api.ErrRange},
		{"Q{n:r}", 0, api.OK}, // vanish themselves
		{"P<Q{n:r}", 4, api.OK},
		{"Q{n:r}R{x:b=256!}", 4, api.OK}, // of no source
		{"P<Q{n:r}R<P{n:r,x:b=x!}", 2, api.ErrRange},
		{"P<Q{n:r,x:b=256!}R<P{n:r}", 5, api.ErrRange},
	} {
		h := branched(t, 200, c.great)
		done(t, h, c.update, c.e)
		if c.e != api.OK {
			class(t, h, 0, 'P', api.OK)
			words(t, h, 22)
		}
	}
}

// TestFullCountsWhatIsThereInTheEnd: not what was there over what vanishes, or over a reference that is dropped.
func TestFullCountsWhatIsThereInTheEnd(t *testing.T) {
	for _, c := range []struct {
		update string
		words  int
	}{
		{"P{x:w,n:r,m:r,q:r}Q{n:r}", 22},
		{"R<Q{n:r}Q<P{n:r,m:r,q:r,x:l}", 22},
		{"P{x:w,n:r,m:r,q:r,a:b}Q{n:r}", 26},
		{"P{x:w,n:r,m:r,q:r,a:b}Q{n:r,a:l,b:l,c:l,d:r,e:r}", 31},
		{"P{x:w,n:r,m:r,q:r}Q{n:r,a:l}", 23},
		{"P{n:r,m:r=n,q:r,a:b,b:b,c:b}Q{n:r,m:r}", 24}, // without 2
		{"P{n:r,m:r=q,q:r=m,a:b,b:b,c:b}Q{n:r}", 30},
		{"P{x:w,n:r,m:r,q:r,a:b,b:b}", 21},         // without 3 and 4
		{"P{x:w,n:r,m:r,a:b,b:b,c:b}Q{n:r}", 21},   // likewise
		{"P{a:b,n:r,b:b,c:b,q:r,d:b}Q<Q{m:r}", 16}, // without 2 and 4
		{"P{n:r=0,a:b,b:b,c:b,d:b,e:b}Q{n:r}", 7},
		{"P{n:r=m,a:b,b:b,c:b,d:b,e:b}Q{n:r}", 7},
		{"P{}Q{}", 1},
		{"Q{n:r,a:b,b:b,c:b,d:b,e:b}", 0},
	} {
		size := max(c.words, 22)
		h := branched(t, size, 5)
		done(t, h, c.update, api.OK)
		words(t, h, c.words)
		if size == 22 {
			continue
		}
		h = branched(t, size-1, 5)
		done(t, h, c.update, api.ErrFull)
		words(t, h, 22)
		class(t, h, 0, 'P', api.OK)
		get(t, h, 0, 'a', 0, api.ErrField)
	}
}

// TestFullOfWhatIsThereAtCommit: not at Begin, nor when it was ready.
func TestFullOfWhatIsThereAtCommit(t *testing.T) {
	h := made(t, "P{}", 6)
	for _, c := range []struct {
		before, after int // how many objects there are at Begin, and at Commit
		e             api.Errno
	}{{4, 3, api.OK}, {4, 4, api.ErrFull}, {3, 4, api.ErrFull}, {3, 3, api.OK}, {6, 3, api.OK}, {0, 6, api.ErrFull}, {6, 0, api.OK}} {
		for root := range c.before {
			ok(t, "P7: Make", h.Make(root, 'P'))
		}
		begin(t, h, "P{x:b=x}", api.ErrField, 6)
		begin(t, h, "P{x:b}", api.OK, 0)
		step(t, h, 200, true, api.OK)
		for root := c.before; root < c.after; root++ {
			ok(t, "P7: Make", h.Make(root, 'P'))
		}
		for root := c.after; root < 8; root++ {
			ok(t, "P10: Clear", h.Clear(root))
		}
		commit(t, h, c.e)
		if c.e == api.OK {
			words(t, h, 2*c.after)
			done(t, h, "P{}", api.OK)
		}
		words(t, h, c.after)
		for root := range 8 {
			ok(t, "P10: Clear", h.Clear(root))
		}
	}
}

// TestRangeGoesAheadOfFull: at whatever object it fails.
func TestRangeGoesAheadOfFull(t *testing.T) {
	for _, c := range []struct {
		great int
		e     api.Errno
	}{{0, api.ErrRange}, {1, api.ErrRange}, {2, api.ErrRange}, {4, api.ErrRange}, {5, api.ErrFull}} {
		h := branched(t, 25, c.great)
		done(t, h, "P{x:b=x!,n:r,m:r,q:r,a:b}Q{n:r}", c.e)
		words(t, h, 22)
	}
}

// TestFailedNeverWas: but what was done meanwhile stays.
func TestFailedNeverWas(t *testing.T) {
	for _, c := range []struct {
		update string
		e      api.Errno
	}{{"R<P{a:b=x!,n:r=m,m:r=n}S{}", api.ErrRange}, {"R<P{a:b,b:b,c:b,d:b,n:r=m,m:r=n}S{}", api.ErrFull}} {
		h := made(t, "P{x:w,n:r,m:r}Q{y:w}", 10)
		ok(t, "P7: Make", h.Make(0, 'P'))
		ok(t, "P7: Make", h.Make(2, 'Q'))
		begin(t, h, c.update, api.OK, 0)
		ok(t, "P8: Put", h.Put(0, 'x', 1000))
		step(t, h, 200, true, api.OK)
		linked(t, h, 0, 'n', 1, 'P')
		ok(t, "P8: Put", h.Put(1, 'x', 7))
		ok(t, "P8: Put", h.Put(2, 'y', -8))
		commit(t, h, c.e)

		commit(t, h, api.ErrIdle)
		abort(t, h, api.ErrIdle)
		step(t, h, 200, false, api.ErrIdle)
		peek(t, h, 0, 'n', 0, api.ErrIdle)
		words(t, h, 10)
		for root, letter := range []byte("PPQ") {
			class(t, h, root, letter, api.OK)
		}
		get(t, h, 0, 'x', 1000, api.OK)
		get(t, h, 1, 'x', 7, api.OK)
		get(t, h, 2, 'y', -8, api.OK)
		get(t, h, 0, 'a', 0, api.ErrField)
		refers(t, h, 0, 'n', 1)
		refers(t, h, 0, 'm', 6)
		is(t, "P7: Make of a class that never was", h.Make(3, 'S'), api.ErrClass)
		begin(t, h, "Z<R{}", api.ErrClass, 2)
		begin(t, h, "P{x:w=a}", api.ErrField, 6)
		done(t, h, "Q{y:w=y-1}P{x:l=x*2,n:r,m:r}", api.OK)
		get(t, h, 0, 'x', 2000, api.OK)
		get(t, h, 2, 'y', -9, api.OK)
		refers(t, h, 0, 'n', 1)
	}
}

// TestCommitOfALongChain: as many objects as can be there, before and after; the places of those that are gone are used again.
func TestCommitOfALongChain(t *testing.T) {
	h := made(t, "P{x:l,n:r,a:l,b:l}", 200)
	chain(t, h, 'P', 40)
	words(t, h, 200)
	done(t, h, "P{x:l,n:r,a:l,b:l,c:l}", api.ErrFull)
	done(t, h, "Q<P{n:r,x:h=x+26}", api.OK)
	words(t, h, 120)
	chain(t, h, 'Q', 26)
	words(t, h, 198)
	is(t, "P7: Make", h.Make(1, 'Q'), api.ErrFull)
	done(t, h, "Q{x:l=x*x,n:r}", api.OK)
	words(t, h, 198)
	done(t, h, "Q{x:l=x*x,n:r,m:r}", api.ErrFull)
	for i := range 66 {
		get(t, h, 0, 'x', int64(i+1)*int64(i+1), api.OK)
		ok(t, "P9: Follow", h.Follow(0, 'n', 0))
	}
	class(t, h, 0, 0, api.ErrNil)
	words(t, h, 0)
}

// TestCommitOfTwoHeaps: one heap's classes are nothing to another's (P2).
func TestCommitOfTwoHeaps(t *testing.T) {
	one := begun(t, "P{x:w,y:w}", 5, 6, "Q<P{x:w=x+1}")
	two := begun(t, "P{x:w,y:w}", 7, 8, "Q<P{x:w=x+1}")
	step(t, one, 200, true, api.OK)
	commit(t, two, api.ErrEarly)
	commit(t, one, api.OK)
	class(t, two, 0, 'P', api.OK)
	get(t, two, 0, 'x', 7, api.OK)
	peek(t, two, 0, 'x', 8, api.OK)
	class(t, one, 0, 'Q', api.OK)
	get(t, one, 0, 'x', 6, api.OK)
	step(t, two, 200, true, api.OK)
	commit(t, two, api.OK)
	get(t, two, 0, 'x', 8, api.OK)
	get(t, one, 0, 'x', 6, api.OK)
}

// TestCommitOfNothing: a heap whose roots hold none.
func TestCommitOfNothing(t *testing.T) {
	h := made(t, "P{x:w}", 1)
	done(t, h, "P{x:b=256!,a:b,b:b,c:b}", api.OK)
	words(t, h, 0)
	is(t, "P7: Make", h.Make(0, 'P'), api.ErrFull)
	done(t, h, "P{}", api.OK)
	ok(t, "P7: Make", h.Make(0, 'P'))
}
