package remake_test

import (
	"fmt"
	"math/rand"
	"testing"

	"remake/api"
	"remake/remake"
)

// thing and model: a heap said in other words, of pointers and maps.
type thing struct {
	class   byte
	numbers map[byte]int64
	refs    map[byte]*thing
}

type model struct {
	text   string                     // of the schema
	kinds  map[string]map[string]byte // and what it says: Letter, letter, kind
	size   int
	roots  [8]*thing
	update string // the one that is pending, or nothing
	ready  bool
	spent  float64 // the budgets of its Steps
}

// pair: a heap and the model that it must agree with.
type pair struct {
	heap    *remake.Heap
	model   *model
	peeks   map[api.Errno]int // how often each answer of Peek has come about
	commits map[api.Errno]int // and of Commit
}

var sampleSchemas = []string{
	"P{x:w,n:r}",
	"P{x:b,n:r,m:r}Q{}",
	"Q{n:h,x:r}P{m:r,x:l,n:r,y:b}",
}

func newThing(class byte) *thing {
	return &thing{class: class, numbers: map[byte]int64{}, refs: map[byte]*thing{}}
}

func (m *model) fields(class byte) map[string]byte {
	return m.kinds[string(class)]
}

// there: the objects that are.
func (m *model) there() map[*thing]bool {
	seen := map[*thing]bool{}
	var visit func(x *thing)
	visit = func(x *thing) {
		if x == nil || seen[x] {
			return
		}
		seen[x] = true
		for _, y := range x.refs {
			visit(y)
		}
	}
	for _, x := range m.roots {
		visit(x)
	}
	return seen
}

func (m *model) words() int {
	total := 0
	for x := range m.there() {
		total += 1 + len(m.fields(x.class))
	}
	return total
}

func outside(roots ...int) bool {
	for _, root := range roots {
		if root < 0 || root > 7 {
			return true
		}
	}
	return false
}

func (m *model) make(root int, class byte) api.Errno {
	fields := m.fields(class)
	switch {
	case outside(root):
		return api.ErrRoot
	case fields == nil:
		return api.ErrClass
	case m.words()+1+len(fields) > m.size:
		return api.ErrFull
	}
	m.roots[root] = newThing(class)
	return api.OK
}

func (m *model) class(root int) (byte, api.Errno) {
	switch {
	case outside(root):
		return 0, api.ErrRoot
	case m.roots[root] == nil:
		return 0, api.ErrNil
	}
	return m.roots[root].class, api.OK
}

// field: the root's object and the field's kind; all is checked but the kind.
func (m *model) field(field byte, root int, other int) (*thing, byte, api.Errno) {
	if outside(root, other) {
		return nil, 0, api.ErrRoot
	}
	x := m.roots[root]
	if x == nil {
		return nil, 0, api.ErrNil
	}
	kind := m.fields(x.class)[string(field)]
	if kind == 0 {
		return nil, 0, api.ErrField
	}
	return x, kind, api.OK
}

func (m *model) get(root int, field byte) (int64, api.Errno) {
	x, kind, e := m.field(field, root, 0)
	switch {
	case e != api.OK:
		return 0, e
	case kind == 'r':
		return 0, api.ErrKind
	}
	return x.numbers[field], api.OK
}

func wrapped(kind byte, value int64) int64 {
	switch kind {
	case 'b':
		return value & 255
	case 'h':
		return (value&0xffff ^ 0x8000) - 0x8000
	case 'w':
		return (value&0xffffffff ^ 0x80000000) - 0x80000000
	}
	return value
}

func (m *model) put(root int, field byte, value int64) api.Errno {
	x, kind, e := m.field(field, root, 0)
	switch {
	case e != api.OK:
		return e
	case kind == 'r':
		return api.ErrKind
	}
	x.numbers[field] = wrapped(kind, value)
	return api.OK
}

func (m *model) follow(root int, field byte, to int) api.Errno {
	x, kind, e := m.field(field, root, to)
	switch {
	case e != api.OK:
		return e
	case kind != 'r':
		return api.ErrKind
	}
	m.roots[to] = x.refs[field]
	return api.OK
}

func (m *model) link(root int, field byte, from int) api.Errno {
	x, kind, e := m.field(field, root, from)
	switch {
	case e != api.OK:
		return e
	case kind != 'r':
		return api.ErrKind
	}
	x.refs[field] = m.roots[from]
	return api.OK
}

func (m *model) copy(root int, to int) api.Errno {
	if outside(root, to) {
		return api.ErrRoot
	}
	m.roots[to] = m.roots[root]
	return api.OK
}

func (m *model) clear(root int) api.Errno {
	if outside(root) {
		return api.ErrRoot
	}
	m.roots[root] = nil
	return api.OK
}

func (m *model) same(root int, other int) (bool, api.Errno) {
	if outside(root, other) {
		return false, api.ErrRoot
	}
	return m.roots[root] == m.roots[other], api.OK
}

func someRoot(r *rand.Rand) int {
	if r.Intn(30) == 0 {
		return noRoots[r.Intn(len(noRoots))]
	}
	return r.Intn(8)
}

func someValue(r *rand.Rand) int64 {
	if r.Intn(3) == 0 {
		return int64(r.Uint64())
	}
	return int64(1)<<r.Intn(64) - int64(r.Intn(3))
}

// act does one call with both, and tells it and both answers.
func (p pair) act(r *rand.Rand) (what string, got string, want string) {
	if r.Intn(14) > 8 {
		return p.actOnUpdate(r)
	}
	return p.actOnObjects(r)
}

// actOnObjects: one call of P7 to P10 with both.
func (p pair) actOnObjects(r *rand.Rand) (what string, got string, want string) {
	h, m := p.heap, p.model
	root, other := someRoot(r), someRoot(r)
	field := "xnmyz?"[r.Intn(6)]
	switch r.Intn(9) {
	case 0, 1:
		class := m.someClass(r)
		return fmt.Sprintf("P7: Make(%d, %q)", root, class), fmt.Sprint(h.Make(root, class)), fmt.Sprint(m.make(root, class))
	case 2, 3:
		value := someValue(r)
		return fmt.Sprintf("P8: Put(%d, %q, %d)", root, field, value), fmt.Sprint(h.Put(root, field, value)), fmt.Sprint(m.put(root, field, value))
	case 4:
		return fmt.Sprintf("P9: Follow(%d, %q, %d)", root, field, other), fmt.Sprint(h.Follow(root, field, other)), fmt.Sprint(m.follow(root, field, other))
	case 5, 6:
		return fmt.Sprintf("P9: Link(%d, %q, %d)", root, field, other), fmt.Sprint(h.Link(root, field, other)), fmt.Sprint(m.link(root, field, other))
	case 7:
		return fmt.Sprintf("P10: Copy(%d, %d)", root, other), fmt.Sprint(h.Copy(root, other)), fmt.Sprint(m.copy(root, other))
	}
	return fmt.Sprintf("P10: Clear(%d)", root), fmt.Sprint(h.Clear(root)), fmt.Sprint(m.clear(root))
}

// someClass: most of them are the schema's.
func (m *model) someClass(r *rand.Rand) byte {
	if r.Intn(10) == 0 {
		return pick(r, "PQRS?")[0]
	}
	return pick(r, lettersOf(m.kinds))[0]
}

// compare: all that the calls tell without changing anything.
func (p pair) compare(t *testing.T) {
	t.Helper()
	words(t, p.heap, p.model.words())
	for root := -1; root <= 8; root++ {
		c, e := p.model.class(root)
		class(t, p.heap, root, c, e)
		for _, field := range []byte("xnmyz?") {
			v, e := p.model.get(root, field)
			get(t, p.heap, root, field, v, e)
			v, e = p.model.peek(root, field)
			p.peeks[e]++
			peek(t, p.heap, root, field, v, e)
		}
		for other := -1; other <= 8; other++ {
			s, e := p.model.same(root, other)
			same(t, p.heap, root, other, s, e)
		}
	}
}

func somePair(t *testing.T, r *rand.Rand) pair {
	text := sampleSchemas[r.Intn(len(sampleSchemas))]
	size := 1 + r.Intn(40)
	return pair{made(t, text, size), &model{text: text, kinds: kindsOf(text), size: size}, map[api.Errno]int{}, map[api.Errno]int{}}
}

// compareAll: what can be reached from the first roots, over up to four references, and what is the same there.
func (p pair) compareAll(t *testing.T) {
	t.Helper()
	for _, path := range pathsOf("xnmyz", 4) {
		for root := range 4 {
			is(t, "P10: Copy", p.heap.Copy(root, 7), p.model.copy(root, 7))
			for _, field := range []byte(path) {
				is(t, "P9: Follow", p.heap.Follow(7, field, 7), p.model.follow(7, field, 7))
			}
			x := p.model.roots[7]
			if x == nil {
				continue
			}
			class(t, p.heap, 7, x.class, api.OK)
			for _, field := range []byte("xnmyz") {
				v, e := p.model.get(7, field)
				get(t, p.heap, 7, field, v, e)
			}
			for other := range 7 {
				s, e := p.model.same(7, other)
				same(t, p.heap, 7, other, s, e)
			}
		}
	}
}

// pathsOf: all rows of up to so many of these letters.
func pathsOf(letters string, length int) []string {
	if length == 0 {
		return []string{""}
	}
	paths := []string{""}
	for _, path := range pathsOf(letters, length-1) {
		for i := range len(letters) {
			paths = append(paths, letters[i:i+1]+path)
		}
	}
	return paths
}

// TestHeapsAgreeWithTheirModels: many calls, on two heaps by turns, so that neither may feel the other (P2).
// All is compared after each call on both, so that a call that answers an error may change nothing (P1).
func TestHeapsAgreeWithTheirModels(t *testing.T) {
	peeks, commits := map[api.Errno]int{}, map[api.Errno]int{}
	for seed := int64(0); seed < 120 && !t.Failed(); seed++ {
		r := rand.New(rand.NewSource(seed))
		pairs := [2]pair{somePair(t, r), somePair(t, r)}
		for i := 0; i < 300 && !t.Failed(); i++ {
			what, got, want := pairs[r.Intn(2)].act(r)
			if got != want {
				t.Errorf("%s: %s, want %s", what, got, want)
			}
			pairs[0].compare(t)
			pairs[1].compare(t)
			if t.Failed() {
				t.Errorf("seed %d, call %d: %s", seed, i, what)
			}
		}
		for _, p := range pairs {
			p.compareAll(t)
			addTo(peeks, p.peeks)
			addTo(commits, p.commits)
		}
	}
	for _, e := range []api.Errno{api.OK, api.ErrIdle, api.ErrRoot, api.ErrNil, api.ErrClass, api.ErrField, api.ErrKind, api.ErrRange} {
		if peeks[e] < 1000 {
			t.Errorf("P15: Peek answered error %d %d times", e, peeks[e])
		}
	}
	for _, e := range []api.Errno{api.OK, api.ErrIdle, api.ErrEarly, api.ErrRange, api.ErrFull} {
		if commits[e] < 20 {
			t.Errorf("P14: Commit answered error %d %d times", e, commits[e])
		}
	}
}

func addTo(sum map[api.Errno]int, part map[api.Errno]int) {
	for e, n := range part {
		sum[e] += n
	}
}

// TestAnswersHangOnTheCallsAlone: the same calls get the same answers, whatever other heaps there are (P2).
func TestAnswersHangOnTheCallsAlone(t *testing.T) {
	told := func(others int) string {
		r := rand.New(rand.NewSource(77))
		for i := 0; i < others; i++ {
			h := made(t, "P{x:w,n:r}", 200)
			ok(t, "P7: Make", h.Make(0, 'P'))
			ok(t, "P8: Put", h.Put(0, 'x', int64(i)))
		}
		p := somePair(t, r)
		all := ""
		for i := 0; i < 400; i++ {
			what, got, _ := p.act(r)
			all += fmt.Sprintln(what, got, p.heap.Words())
		}
		return all
	}
	if told(0) != told(5) {
		t.Errorf("P2: the same calls get other answers")
	}
}
