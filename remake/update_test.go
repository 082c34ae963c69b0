package remake_test

import (
	"math"
	"strings"
	"testing"

	"remake/api"
	"remake/remake"
)

func begin(t *testing.T, h *remake.Heap, update string, want api.Errno, wantPlace int) {
	t.Helper()
	if e, place := h.Begin(update); e != want || place != wantPlace {
		t.Errorf("P12: Begin(%q) = %d, %d, want %d, %d", update, e, place, want, wantPlace)
	}
}

func step(t *testing.T, h *remake.Heap, budget int, want bool, wantE api.Errno) {
	t.Helper()
	if said, e := h.Step(budget); said != want || e != wantE {
		t.Errorf("P13: Step(%d) = %v, %d, want %v, %d", budget, said, e, want, wantE)
	}
}

func abort(t *testing.T, h *remake.Heap, want api.Errno) {
	t.Helper()
	is(t, "P15: Abort", h.Abort(), want)
}

// begun: a heap whose root 0 holds a P with these numbers in x and y, and to which the update is pending.
func begun(t *testing.T, schema string, x int64, y int64, update string) *remake.Heap {
	t.Helper()
	h := made(t, schema, 200)
	ok(t, "P7: Make", h.Make(0, 'P'))
	ok(t, "P8: Put", h.Put(0, 'x', x))
	ok(t, "P8: Put", h.Put(0, 'y', y))
	begin(t, h, update, api.OK, 0)
	return h
}

func TestBeginRefuses(t *testing.T) {
	h := made(t, "P{x:w,n:r}", 7)
	for _, c := range []struct {
		update string
		e      api.Errno
		place  int
	}{
		{strings.Repeat("?", 201), api.ErrLong, 0},
		{strings.Repeat("?", 200), api.ErrSyntax, 0},
		{"", api.ErrSyntax, 0},
		{"P", api.ErrSyntax, 1},
		{"P{x:w=01}", api.ErrSyntax, 7},
		{"P{}P{}", api.ErrTwice, 3},
		{"Q<P{}P{}", api.ErrTwice, 5},
		{"Q<R{}", api.ErrClass, 2},
		{"P{x:w=y}", api.ErrField, 6},
		{"Q{x:w=x}", api.ErrField, 6},
		{"P{x:w=n}", api.ErrKind, 6},
		{"Q<P{n:r=x}", api.ErrKind, 8},
	} {
		begin(t, h, c.update, c.e, c.place)
		step(t, h, 200, false, api.ErrIdle)
		abort(t, h, api.ErrIdle)
		peek(t, h, 0, 'x', 0, api.ErrIdle)
	}
	begin(t, h, "P{x:w,n:r}", api.OK, 0)
}

func TestBeginWhileOneIsPending(t *testing.T) {
	h := begun(t, "P{x:w,y:w}", 5, 0, "P{x:w=x+1}")
	for range 2 {
		for _, update := range []string{"P{x:w=x+1}", "P{x:w=x+2}", "", "P{", "P{x:w=q}", strings.Repeat("P", 201)} {
			begin(t, h, update, api.ErrBusy, 0)
			peek(t, h, 0, 'x', 6, api.OK)
		}
		step(t, h, 200, true, api.OK)
	}
	abort(t, h, api.OK)
	begin(t, h, "P{x:w=x+2}", api.OK, 0)
	peek(t, h, 0, 'x', 7, api.OK)
}

// TestPendingShowsNowhere: the old classes hold for all calls of P7 to P11, ready or not.
func TestPendingShowsNowhere(t *testing.T) {
	h := made(t, "P{x:w,n:r}Q{}", 8)
	ok(t, "P7: Make", h.Make(0, 'P'))
	begin(t, h, "P{x:b=7,y:w,n:w,a:w,b:w,c:r}R{}", api.OK, 0)
	for round := range 2 {
		class(t, h, 0, 'P', api.OK)
		ok(t, "P8: Put", h.Put(0, 'x', 70000))
		get(t, h, 0, 'x', 70000, api.OK)
		get(t, h, 0, 'y', 0, api.ErrField)
		get(t, h, 0, 'n', 0, api.ErrKind)
		is(t, "P7: Make of a new class", h.Make(1, 'R'), api.ErrClass)
		ok(t, "P7: Make of a class that vanishes", h.Make(1, 'Q'))
		ok(t, "P9: Link", h.Link(0, 'n', 1))
		ok(t, "P9: Follow", h.Follow(0, 'n', 2))
		same(t, h, 1, 2, true, api.OK)
		ok(t, "P7: Make", h.Make(3, 'P'))
		words(t, h, 7)
		is(t, "P7: Make of too many words", h.Make(4, 'P'), api.ErrFull)
		ok(t, "P10: Clear", h.Clear(3))
		if round == 0 {
			step(t, h, 200, true, api.OK)
		}
	}
	abort(t, h, api.OK)
	get(t, h, 0, 'x', 70000, api.OK)
	class(t, h, 2, 'Q', api.OK)
	words(t, h, 4)
}

func TestStepRefuses(t *testing.T) {
	h := made(t, "P{x:w}", 7)
	for _, budget := range []int{math.MinInt, -1, 0, 1, 200, math.MaxInt} {
		step(t, h, budget, false, api.ErrIdle)
	}
	begin(t, h, "P{}", api.OK, 0)
	for range 2 {
		for _, budget := range []int{math.MinInt, -200, -1, 0} {
			step(t, h, budget, false, api.ErrBudget)
		}
		step(t, h, 200, true, api.OK)
	}
	abort(t, h, api.OK)
	step(t, h, 200, false, api.ErrIdle)
	step(t, h, 0, false, api.ErrIdle)
}

// TestStepsCome: true at the latest when the budgets come to 200, and from then on whatever is done.
func TestStepsCome(t *testing.T) {
	for _, budgets := range [][]int{
		{200}, {201}, {199, 1}, {1, 199}, {100, 100}, {66, 67, 67}, {math.MaxInt}, {1, math.MaxInt}, {199, math.MaxInt, math.MaxInt},
	} {
		h := made(t, "P{x:w,n:r}", 200)
		for range 3 {
			begin(t, h, "P{x:b=x*x!,n:r}", api.OK, 0)
			ready := false
			for i, budget := range budgets {
				said, e := h.Step(budget)
				last := i == len(budgets)-1
				if e != api.OK || (ready || last) && !said {
					t.Errorf("P13: of Steps %v the one at %d: %v, %d", budgets, i, said, e)
				}
				ready = said
			}
			for root := range 8 {
				ok(t, "P7: Make", h.Make(root, 'P'))
				ok(t, "P8: Put", h.Put(root, 'x', -1))
				step(t, h, 0, false, api.ErrBudget)
				step(t, h, 1, true, api.OK)
			}
			abort(t, h, api.OK)
		}
	}
}

func TestPeekRefuses(t *testing.T) {
	h := made(t, "P{x:w,n:r}Q{x:w}", 200)
	ok(t, "P7: Make", h.Make(0, 'P'))
	ok(t, "P7: Make", h.Make(1, 'Q'))
	ok(t, "P8: Put", h.Put(0, 'x', 256))
	for _, root := range append(noRoots, 0, 1, 2) {
		peek(t, h, root, 'x', 0, api.ErrIdle)
		peek(t, h, root, '?', 0, api.ErrIdle)
	}
	begin(t, h, "Z<P{a:b=x!,b:b=x,n:r,m:r=n}P{c:w}", api.ErrTwice, 27)
	begin(t, h, "Z<P{a:b=x!,b:b=x,n:r,m:r=n}R{c:w,x:w}", api.OK, 0)
	for _, root := range noRoots {
		peek(t, h, root, 'a', 0, api.ErrRoot)
		peek(t, h, root, '?', 0, api.ErrRoot)
	}
	peek(t, h, 2, 'a', 0, api.ErrNil)
	peek(t, h, 2, '?', 0, api.ErrNil)
	peek(t, h, 1, 'x', 0, api.ErrClass)
	peek(t, h, 1, '?', 0, api.ErrClass)
	for b := range 256 {
		switch field := byte(b); field {
		case 'a':
			peek(t, h, 0, field, 0, api.ErrRange)
		case 'b':
			peek(t, h, 0, field, 0, api.OK)
		case 'n', 'm':
			peek(t, h, 0, field, 0, api.ErrKind)
		default:
			peek(t, h, 0, field, 0, api.ErrField)
		}
	}
}

func TestPeekOfSums(t *testing.T) {
	const most, least = math.MaxInt64, math.MinInt64
	for _, c := range []struct {
		x, y int64
		rule string // kind, sum
		want int64
		e    api.Errno
	}{
		{0, 0, "l=7", 7, api.OK},
		{3, 4, "l=x", 3, api.OK},
		{3, 4, "l=y", 4, api.OK},
		{3, 4, "l=x-y", -1, api.OK},
		{3, 4, "l=y-x", 1, api.OK},
		{3, 4, "l=x+y*2", 11, api.OK},
		{3, 4, "l=x*2+y", 10, api.OK},
		{3, 4, "l=(x+y)*2", 14, api.OK},
		{3, 4, "l=2*(x+y)", 14, api.OK},
		{3, 4, "l=x-y-2", -3, api.OK},
		{3, 4, "l=x-(y-2)", 1, api.OK},
		{3, 4, "l=x-y+2", 1, api.OK},
		{3, 4, "l=x-y*2+1", -4, api.OK},
		{3, 4, "l=10-2*x*y-1", -15, api.OK},
		{3, 4, "l=x*y*x-y*x*y", -12, api.OK},
		{3, 4, "l=1-(2-(3-(4-(5-(6-x)))))", 1 - (2 - (3 - (4 - (5 - (6 - 3))))), api.OK},
		{3, 4, "l=9-x*(8-x*(7-x*(6-x*(5-x*(4-x*y)))))", 9 - 3*(8-3*(7-3*(6-3*(5-3*(4-3*4))))), api.OK},
		{3, 4, "l=((((((x))))))*((((((y))))))", 12, api.OK},
		{3, 4, "l=" + strings.Repeat("x-", 90) + "y", 3 - 89*3 - 4, api.OK},
		{3, 4, "l=" + strings.Repeat("x*", 90) + "y", 891067119695696804, api.OK},
		{0, 0, "l=0-999999999", -999999999, api.OK},
		// All modulo 2^64.
		{most, 1, "l=x+y", least, api.OK},
		{least, 1, "l=x-y", most, api.OK},
		{least, 0, "l=0-x", least, api.OK},
		{most, 2, "l=x*y", -2, api.OK},
		{1 << 32, 1 << 32, "l=x*y", 0, api.OK},
		{most, 1, "l=x+y!", least, api.OK},
		{1 << 32, 1 << 32, "b=x*y!", 0, api.OK},
		{1 << 32, 1 << 32, "b=x*y+255!", 255, api.OK},
		{1<<62 + 1, 4, "h=x*y!", 4, api.OK},
		{most, 1, "w=x+y-1-x!", 0, api.OK},
		// The whole is wrapped, not its parts.
		{300, 2, "b=x*y", 600 - 2*256, api.OK},
		{300, 45, "b=x-y", 255, api.OK},
		{300, 45, "b=x-y!", 255, api.OK},
		{70000, 0, "h=x*x", 4352, api.OK},
		// The ends of each kind.
		{255, 1, "b=x", 255, api.OK}, {255, 1, "b=x!", 255, api.OK}, {255, 1, "b=x+y", 0, api.OK}, {255, 1, "b=x+y!", 0, api.ErrRange},
		{0, 1, "b=x!", 0, api.OK}, {0, 1, "b=x-y", 255, api.OK}, {0, 1, "b=x-y!", 0, api.ErrRange}, {least, 1, "b=x!", 0, api.ErrRange},
		{32767, 1, "h=x!", 32767, api.OK}, {32767, 1, "h=x+y", -32768, api.OK}, {32767, 1, "h=x+y!", 0, api.ErrRange},
		{-32768, 1, "h=x!", -32768, api.OK}, {-32768, 1, "h=x-y", 32767, api.OK}, {-32768, 1, "h=x-y!", 0, api.ErrRange},
		{2147483647, 1, "w=x!", 2147483647, api.OK}, {2147483647, 1, "w=x+y", -2147483648, api.OK}, {2147483647, 1, "w=x+y!", 0, api.ErrRange},
		{-2147483648, 1, "w=x!", -2147483648, api.OK}, {-2147483648, 1, "w=x-y", 2147483647, api.OK}, {-2147483648, 1, "w=x-y!", 0, api.ErrRange},
		{most, 1, "l=x!", most, api.OK}, {least, 1, "l=x!", least, api.OK}, {least, 1, "l=x-y!", most, api.OK},
		{1 << 40, 0, "w=x", 0, api.OK}, {1 << 40, 0, "w=x!", 0, api.ErrRange}, {1 << 40, 0, "h=x!", 0, api.ErrRange},
		{0, 0, "b=256", 0, api.OK}, {0, 0, "b=256!", 0, api.ErrRange}, {0, 0, "b=255!", 255, api.OK},
	} {
		h := begun(t, "P{n:r,x:l,y:l}", c.x, c.y, "P{n:r,z:"+c.rule+"}")
		if v, e := h.Peek(0, 'z'); v != c.want || e != c.e {
			t.Errorf("P15: x is %d, y is %d: Peek of z:%s = %d, %d, want %d, %d", c.x, c.y, c.rule, v, e, c.want, c.e)
		}
	}
}

// TestPeekWithoutSum: the old field of the same letter, if both are numbers.
func TestPeekWithoutSum(t *testing.T) {
	h := begun(t, "P{x:w,y:l,n:r}", -70001, math.MinInt64+5, "P{y:b,x:h,n:l,z:w}")
	peek(t, h, 0, 'x', -4465, api.OK)
	peek(t, h, 0, 'y', 5, api.OK)
	peek(t, h, 0, 'n', 0, api.OK)
	peek(t, h, 0, 'z', 0, api.OK)
	ok(t, "P9: Link", h.Link(0, 'n', 0))
	peek(t, h, 0, 'n', 0, api.OK)
	abort(t, h, api.OK)

	begin(t, h, "P{n:r,x:r,y:w}", api.OK, 0)
	peek(t, h, 0, 'n', 0, api.ErrKind)
	peek(t, h, 0, 'x', 0, api.ErrKind)
	peek(t, h, 0, 'y', 5, api.OK)
	abort(t, h, api.OK)

	begin(t, h, "P{x:l,y:l}", api.OK, 0)
	peek(t, h, 0, 'x', -70001, api.OK)
	peek(t, h, 0, 'y', math.MinInt64+5, api.OK)
}

// TestPeekOfSources: which new class an object's class is the source of.
func TestPeekOfSources(t *testing.T) {
	h := made(t, "P{x:w}Q{x:w}R{x:w}", 200)
	for i, letter := range []byte("PQR") {
		ok(t, "P7: Make", h.Make(i, letter))
		ok(t, "P8: Put", h.Put(i, 'x', int64(i+1)))
	}
	for _, c := range []struct {
		update  string
		p, q, r int64 // what x becomes, 0 if the class vanishes
	}{
		{"P{x:w=x+10}Q{x:w=x+20}R{x:w=x+30}", 11, 22, 33},
		{"P<Q{x:w=x+10}Q<R{x:w=x+20}R<P{x:w=x+30}", 31, 12, 23},
		{"Z<R{x:w=x+10}", 0, 0, 13},
		{"Z<R{x:w=x+10}P{x:w=x+20}", 21, 0, 13},
		{"R<P{x:w=x+10}", 11, 0, 0},
		{"Z{x:w=40}", 0, 0, 0},
		{"Z{x:w=40}P<P{x:w}", 1, 0, 0},
	} {
		begin(t, h, c.update, api.OK, 0)
		for i, want := range []int64{c.p, c.q, c.r} {
			e := api.OK
			if want == 0 {
				e = api.ErrClass
			}
			peek(t, h, i, 'x', want, e)
		}
		abort(t, h, api.OK)
	}
}

// TestPeekOfWhatIsHeldNow: the object as it is at the call, whenever it was made or written, ready or not.
func TestPeekOfWhatIsHeldNow(t *testing.T) {
	h := begun(t, "P{x:w,y:w,n:r}Q{}", 5, 0, "P{x:b=x*2!,n:r}")
	peek(t, h, 0, 'x', 10, api.OK)
	for range 2 {
		ok(t, "P8: Put", h.Put(0, 'x', 128))
		peek(t, h, 0, 'x', 0, api.ErrRange)
		ok(t, "P8: Put", h.Put(0, 'x', 127))
		peek(t, h, 0, 'x', 254, api.OK)
		get(t, h, 0, 'x', 127, api.OK)

		ok(t, "P7: Make", h.Make(1, 'P'))
		peek(t, h, 1, 'x', 0, api.OK)
		ok(t, "P8: Put", h.Put(1, 'x', 4))
		ok(t, "P9: Link", h.Link(0, 'n', 1))
		ok(t, "P10: Clear", h.Clear(1))
		peek(t, h, 1, 'x', 0, api.ErrNil)
		ok(t, "P9: Follow", h.Follow(0, 'n', 2))
		peek(t, h, 2, 'x', 8, api.OK)
		ok(t, "P7: Make", h.Make(2, 'Q'))
		peek(t, h, 2, 'x', 0, api.ErrClass)
		step(t, h, 200, true, api.OK)
	}
}

func TestAbortedNeverWas(t *testing.T) {
	h := begun(t, "P{x:w,y:w}", 5, 6, "Q<P{x:b=1,z:l}")
	ok(t, "P8: Put", h.Put(0, 'x', 500))
	step(t, h, 200, true, api.OK)
	abort(t, h, api.OK)
	abort(t, h, api.ErrIdle)
	peek(t, h, 0, 'x', 0, api.ErrIdle)
	class(t, h, 0, 'P', api.OK)
	get(t, h, 0, 'x', 500, api.OK)
	get(t, h, 0, 'y', 6, api.OK)
	words(t, h, 3)
	begin(t, h, "P{a:w=z}", api.ErrField, 6)
	begin(t, h, "R<Q{}", api.ErrClass, 2)
	begin(t, h, "P{a:w=y}", api.OK, 0)
	peek(t, h, 0, 'a', 6, api.OK)
	peek(t, h, 0, 'x', 0, api.ErrField)
	abort(t, h, api.OK)
}

// TestUpdatesOfTwoHeaps: what is pending to one heap is nothing to another (P2).
func TestUpdatesOfTwoHeaps(t *testing.T) {
	one := begun(t, "P{x:w,y:w}", 5, 6, "P{a:w=x}")
	two := begun(t, "P{x:w,y:w}", 7, 8, "P{a:w=y*2}")
	peek(t, one, 0, 'a', 5, api.OK)
	peek(t, two, 0, 'a', 16, api.OK)
	abort(t, one, api.OK)
	peek(t, one, 0, 'a', 0, api.ErrIdle)
	peek(t, two, 0, 'a', 16, api.OK)
	step(t, one, 200, false, api.ErrIdle)
	step(t, two, 200, true, api.OK)
}
