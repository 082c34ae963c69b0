package remake_test

import (
	"fmt"
	"go/ast"
	"go/parser"
	"go/token"
	"math"
	"math/big"
	"math/rand"
	"regexp"
	"sort"
	"strings"
	"testing"

	"remake/api"
)

func (m *model) begin(update string) (api.Errno, int) {
	if m.update != "" {
		return api.ErrBusy, 0
	}
	e, place := wantedFits(m.text, update)
	if e == api.OK {
		m.update, m.ready, m.spent = update, false, 0
	}
	return e, place
}

// step: where P13 leaves open what is answered, it is what was said.
func (m *model) step(budget int, said bool) (bool, api.Errno) {
	switch {
	case m.update == "":
		return false, api.ErrIdle
	case budget < 1:
		return false, api.ErrBudget
	}
	m.spent += float64(budget)
	m.ready = m.ready || m.spent >= 200 || said
	return m.ready, api.OK
}

func (m *model) abort() api.Errno {
	if m.update == "" {
		return api.ErrIdle
	}
	m.update = ""
	return api.OK
}

func (m *model) peek(root int, field byte) (int64, api.Errno) {
	if m.update == "" {
		return 0, api.ErrIdle
	}
	if outside(root) {
		return 0, api.ErrRoot
	}
	x := m.roots[root]
	if x == nil {
		return 0, api.ErrNil
	}
	letter, fields := madeOf(m.update, x.class)
	if letter == 0 {
		return 0, api.ErrClass
	}
	for _, f := range fields {
		if f[0] == field {
			return becomes(f, m.fields(x.class), x.numbers)
		}
	}
	return 0, api.ErrField
}

var besideSchema = regexp.MustCompile(`<[A-Z]|=[^,}]*`)

// commit: all is built anew, and then taken or not.
func (m *model) commit() api.Errno {
	switch {
	case m.update == "":
		return api.ErrIdle
	case !m.ready:
		return api.ErrEarly
	}
	update := m.update
	m.update = ""
	remade := map[*thing]*thing{}
	for x := range m.there() {
		if letter, _ := madeOf(update, x.class); letter != 0 {
			remade[x] = newThing(letter)
		}
	}
	for x, y := range remade {
		if e := m.fill(y, x, update, remade); e != api.OK {
			return e
		}
	}
	text := besideSchema.ReplaceAllString(update, "")
	next := model{text: text, kinds: kindsOf(text), size: m.size}
	for i, x := range m.roots {
		next.roots[i] = remade[x]
	}
	if next.words() > next.size {
		return api.ErrFull
	}
	*m = next
	return api.OK
}

// fill gives a new thing the fields that come of an old one's.
func (m *model) fill(y *thing, x *thing, update string, remade map[*thing]*thing) api.Errno {
	_, fields := madeOf(update, x.class)
	for _, f := range fields {
		if f[2] == 'r' {
			taken := f[0]
			if len(f) > 3 {
				taken = f[4]
			}
			y.refs[f[0]] = remade[x.refs[taken]]
			continue
		}
		n, e := becomes(f, m.fields(x.class), x.numbers)
		if e != api.OK {
			return e
		}
		y.numbers[f[0]] = n
	}
	return api.OK
}

// madeOf: the Letter of the class that an old class is the source of, or 0, and the texts of its fields.
func madeOf(update string, old byte) (byte, []string) {
	for _, c := range classForm.FindAllStringSubmatch(update, -1) {
		source := c[2]
		if source == "" {
			source = c[1]
		}
		if source == string(old) {
			return c[1][0], strings.FieldsFunc(c[3], func(r rune) bool { return r == ',' })
		}
	}
	return 0, nil
}

// becomes: what stands under 'What a field becomes', for a kind of number.
func becomes(field string, kinds map[string]byte, numbers map[byte]int64) (int64, api.Errno) {
	kind := field[2]
	if kind == 'r' {
		return 0, api.ErrKind
	}
	_, sum, given := strings.Cut(field, "=")
	if !given {
		old := kinds[field[:1]]
		if old == 0 || old == 'r' {
			return 0, api.OK
		}
		return wrapped(kind, numbers[field[0]]), api.OK
	}
	sum, exact := strings.CutSuffix(sum, "!")
	value := valueOf(sum, numbers)
	if exact && wrapped(kind, value) != value {
		return 0, api.ErrRange
	}
	return wrapped(kind, value), api.OK
}

// valueOf: the sum is read as Go's own parser does, and reckoned in numbers
// without end; only in the end it is taken modulo 2^64.
func valueOf(sum string, numbers map[byte]int64) int64 {
	tree, err := parser.ParseExpr(sum)
	if err != nil {
		panic(err)
	}
	low := new(big.Int).And(reckoned(tree, numbers), new(big.Int).SetUint64(math.MaxUint64))
	return int64(low.Uint64())
}

func reckoned(tree ast.Expr, numbers map[byte]int64) *big.Int {
	switch x := tree.(type) {
	case *ast.ParenExpr:
		return reckoned(x.X, numbers)
	case *ast.Ident:
		return big.NewInt(numbers[x.Name[0]])
	case *ast.BasicLit:
		n, _ := new(big.Int).SetString(x.Value, 10)
		return n
	case *ast.BinaryExpr:
		left, right := reckoned(x.X, numbers), reckoned(x.Y, numbers)
		switch x.Op {
		case token.ADD:
			return left.Add(left, right)
		case token.SUB:
			return left.Sub(left, right)
		case token.MUL:
			return left.Mul(left, right)
		}
	}
	panic("no sum")
}

// actOnUpdate: one call of P12 to P15 with both.
func (p pair) actOnUpdate(r *rand.Rand) (what string, got string, want string) {
	h, m := p.heap, p.model
	switch r.Intn(12) {
	case 0, 1, 2, 3:
		update := someUpdate(r, m.kinds)
		return fmt.Sprintf("P12: Begin(%q)", update), fmt.Sprint(h.Begin(update)), fmt.Sprint(m.begin(update))
	case 4, 5, 6, 7:
		budget := []int{1, 1, 20, 99, 199, 200, math.MaxInt, 0, -1, math.MinInt}[r.Intn(10)]
		said, e := h.Step(budget)
		return fmt.Sprintf("P13: Step(%d)", budget), fmt.Sprint(said, e), fmt.Sprint(m.step(budget, said))
	case 8:
		return "P15: Abort()", fmt.Sprint(h.Abort()), fmt.Sprint(m.abort())
	}
	return p.commitBoth()
}

func (p pair) commitBoth() (what string, got string, want string) {
	what = fmt.Sprintf("P14: Commit() of %q", p.model.update)
	got, e := fmt.Sprint(p.heap.Commit()), p.model.commit()
	p.commits[e]++
	return what, got, fmt.Sprint(e)
}

// lettersOf: the Letters of a schema's classes, in their order from A on.
func lettersOf(kinds map[string]map[string]byte) string {
	var letters []string
	for letter := range kinds {
		letters = append(letters, letter)
	}
	sort.Strings(letters)
	return strings.Join(letters, "")
}

// someUpdate: most of them fit the schema.
func someUpdate(r *rand.Rand, kinds map[string]map[string]byte) string {
	update := ""
	olds := lettersOf(kinds)
	sources := r.Perm(len(olds))
	for i, letter := range r.Perm(4)[:1+r.Intn(4)] {
		source := "PQRS"[letter : letter+1]
		update += source
		if i < len(olds) && r.Intn(8) > 0 {
			source = olds[sources[i] : sources[i]+1]
			update += "<" + source
		}
		update += "{" + someFields(r, kinds[source]) + "}"
	}
	if r.Intn(15) == 0 {
		i := r.Intn(len(update))
		update = update[:i] + pick(r, updateBytes) + update[i+1:]
	}
	return update
}

// sortsOf: the letters of a class's numbers, and of its references.
func sortsOf(fields map[string]byte) (numbers string, refs string) {
	for _, letter := range strings.Split("x,n,m,y,z", ",") {
		switch fields[letter] {
		case 0:
		case 'r':
			refs += letter
		default:
			numbers += letter
		}
	}
	return numbers, refs
}

func someFields(r *rand.Rand, source map[string]byte) string {
	numbers, refs := sortsOf(source)
	var fields []string
	for _, letter := range r.Perm(5)[:r.Intn(6)] {
		kind := pick(r, "bhwlr")
		field := "xnmyz"[letter:letter+1] + ":" + kind
		switch {
		case r.Intn(3) == 0:
		case kind != "r":
			field += "=" + randomSum(r, numbers, 0) + []string{"", "", "!"}[r.Intn(3)]
		case refs != "":
			field += "=" + pick(r, refs+"0")
		}
		fields = append(fields, field)
	}
	return strings.Join(fields, ",")
}

// keepingUpdate: most classes do not vanish, and no reference is dropped, so that most objects stay there.
func keepingUpdate(r *rand.Rand, kinds map[string]map[string]byte) string {
	update := ""
	letters := r.Perm(4)
	for i, old := range lettersOf(kinds) {
		if r.Intn(12) > 0 {
			update += "PQRS"[letters[i]:letters[i]+1] + "<" + string(old) + "{" + keepingFields(r, kinds[string(old)]) + "}"
		}
	}
	return update
}

func keepingFields(r *rand.Rand, source map[string]byte) string {
	numbers, refs := sortsOf(source)
	var fields []string
	for i, letter := range r.Perm(5) {
		field := "xnmyz"[letter : letter+1]
		switch {
		case i < len(refs):
			fields = append(fields, field+":r="+refs[i:i+1])
		case r.Intn(2) == 0:
			fields = append(fields, field+":"+pick(r, "hwlll")+"="+randomSum(r, numbers, 0)+[]string{"", "", "", "!"}[r.Intn(4)])
		}
	}
	r.Shuffle(len(fields), func(i, j int) { fields[i], fields[j] = fields[j], fields[i] })
	return strings.Join(fields, ",")
}

// grow makes objects, most of which refer to what their root held ahead of them, so that there are many more than roots.
func (p pair) grow(r *rand.Rand) {
	h, m := p.heap, p.model
	for range 100 {
		letter, root := m.someClass(r), r.Intn(7)
		h.Copy(root, 7)
		m.copy(root, 7)
		h.Make(root, letter)
		m.make(root, letter)
		for _, field := range []byte("xnmyz") {
			value := someValue(r) >> r.Intn(64)
			h.Put(root, field, value)
			m.put(root, field, value)
			other := max(r.Intn(8), r.Intn(8))
			h.Link(root, field, other)
			m.link(root, field, other)
		}
	}
}

// beginSome begins an update that fits, with both.
func (p pair) beginSome(t *testing.T, r *rand.Rand) {
	t.Helper()
	for p.model.update == "" {
		update := keepingUpdate(r, p.model.kinds)
		if r.Intn(6) == 0 {
			update = someUpdate(r, p.model.kinds)
		}
		e, place := p.model.begin(update)
		begin(t, p.heap, update, e, place)
	}
}

// TestCommitsAgreeWithTheModel: updates one after another, of heaps with many objects, some of which are changed meanwhile.
func TestCommitsAgreeWithTheModel(t *testing.T) {
	commits := map[api.Errno]int{}
	for seed := int64(0); seed < 150 && !t.Failed(); seed++ {
		r := rand.New(rand.NewSource(seed))
		text := "P{x:l,n:r,m:r}Q{n:r,z:r,x:h,y:w}R{y:l,x:w,m:r}S{}"
		size := 10 + r.Intn(111)
		p := pair{made(t, text, size), &model{text: text, kinds: kindsOf(text), size: size}, map[api.Errno]int{}, commits}
		for range 5 {
			p.grow(r)
			p.beginSome(t, r)
			said, _ := p.heap.Step(200)
			p.model.step(200, said)
			for range r.Intn(20) {
				p.actOnObjects(r)
			}
			what, got, want := p.commitBoth()
			if got != want {
				t.Errorf("%s: %s, want %s", what, got, want)
			}
			p.compare(t)
			if t.Failed() {
				t.Errorf("seed %d: %s", seed, what)
			}
		}
		p.compareAll(t)
	}
	for _, e := range []api.Errno{api.OK, api.ErrRange, api.ErrFull} {
		if commits[e] < 100 {
			t.Errorf("P14: Commit answered error %d %d times", e, commits[e])
		}
	}
}
