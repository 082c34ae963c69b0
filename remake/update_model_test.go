package remake_test

import (
	"fmt"
	"go/ast"
	"go/parser"
	"go/token"
	"math"
	"math/big"
	"math/rand"
	"strings"

	"remake/api"
)

func (m *model) begin(update string) (api.Errno, int) {
	if m.update != "" {
		return api.ErrBusy, 0
	}
	e, place := wantedFits(m.text, update)
	if e == api.OK {
		m.update, m.ready, m.spent = update, false, 0
	}
	return e, place
}

// step: where P13 leaves open what is answered, it is what was said.
func (m *model) step(budget int, said bool) (bool, api.Errno) {
	switch {
	case m.update == "":
		return false, api.ErrIdle
	case budget < 1:
		return false, api.ErrBudget
	}
	m.spent += float64(budget)
	m.ready = m.ready || m.spent >= 200 || said
	return m.ready, api.OK
}

func (m *model) abort() api.Errno {
	if m.update == "" {
		return api.ErrIdle
	}
	m.update = ""
	return api.OK
}

func (m *model) peek(root int, field byte) (int64, api.Errno) {
	if m.update == "" {
		return 0, api.ErrIdle
	}
	if outside(root) {
		return 0, api.ErrRoot
	}
	x := m.roots[root]
	if x == nil {
		return 0, api.ErrNil
	}
	fields, known := fieldsMadeOf(m.update, x.class)
	if !known {
		return 0, api.ErrClass
	}
	for _, f := range fields {
		if f[0] == field {
			return becomes(f, m.fields(x.class), x.numbers)
		}
	}
	return 0, api.ErrField
}

// fieldsMadeOf: the texts of the fields of the class that an old class is the source of.
func fieldsMadeOf(update string, old byte) ([]string, bool) {
	for _, c := range classForm.FindAllStringSubmatch(update, -1) {
		source := c[2]
		if source == "" {
			source = c[1]
		}
		if source == string(old) {
			return strings.FieldsFunc(c[3], func(r rune) bool { return r == ',' }), true
		}
	}
	return nil, false
}

// becomes: what stands under 'What a field becomes', for a kind of number.
func becomes(field string, kinds map[string]byte, numbers map[byte]int64) (int64, api.Errno) {
	kind := field[2]
	if kind == 'r' {
		return 0, api.ErrKind
	}
	_, sum, given := strings.Cut(field, "=")
	if !given {
		old := kinds[field[:1]]
		if old == 0 || old == 'r' {
			return 0, api.OK
		}
		return wrapped(kind, numbers[field[0]]), api.OK
	}
	sum, exact := strings.CutSuffix(sum, "!")
	value := valueOf(sum, numbers)
	if exact && wrapped(kind, value) != value {
		return 0, api.ErrRange
	}
	return wrapped(kind, value), api.OK
}

// valueOf: the sum is read as Go's own parser does, and reckoned in numbers
// without end; only in the end it is taken modulo 2^64.
func valueOf(sum string, numbers map[byte]int64) int64 {
	tree, err := parser.ParseExpr(sum)
	if err != nil {
		panic(err)
	}
	low := new(big.Int).And(reckoned(tree, numbers), new(big.Int).SetUint64(math.MaxUint64))
	return int64(low.Uint64())
}

func reckoned(tree ast.Expr, numbers map[byte]int64) *big.Int {
	switch x := tree.(type) {
	case *ast.ParenExpr:
		return reckoned(x.X, numbers)
	case *ast.Ident:
		return big.NewInt(numbers[x.Name[0]])
	case *ast.BasicLit:
		n, _ := new(big.Int).SetString(x.Value, 10)
		return n
	case *ast.BinaryExpr:
		left, right := reckoned(x.X, numbers), reckoned(x.Y, numbers)
		switch x.Op {
		case token.ADD:
			return left.Add(left, right)
		case token.SUB:
			return left.Sub(left, right)
		case token.MUL:
			return left.Mul(left, right)
		}
	}
	panic("no sum")
}

// actOnUpdate: one call of P12, P13 or P15 with both.
func (p pair) actOnUpdate(r *rand.Rand) (what string, got string, want string) {
	h, m := p.heap, p.model
	switch r.Intn(6) {
	case 0, 1, 2:
		update := someUpdate(r, m.kinds)
		return fmt.Sprintf("P12: Begin(%q)", update), fmt.Sprint(h.Begin(update)), fmt.Sprint(m.begin(update))
	case 3, 4:
		budget := []int{1, 1, 20, 99, 199, 200, math.MaxInt, 0, -1, math.MinInt}[r.Intn(10)]
		said, e := h.Step(budget)
		return fmt.Sprintf("P13: Step(%d)", budget), fmt.Sprint(said, e), fmt.Sprint(m.step(budget, said))
	}
	return "P15: Abort()", fmt.Sprint(h.Abort()), fmt.Sprint(m.abort())
}

// someUpdate: most of them fit the schema.
func someUpdate(r *rand.Rand, kinds map[string]map[string]byte) string {
	update := ""
	sources := r.Perm(len(kinds)) // with one class it is P
	for i, letter := range r.Perm(4)[:1+r.Intn(3)] {
		source := "PQRS"[letter : letter+1]
		update += source
		if i < len(kinds) && r.Intn(5) > 0 {
			source = "PQ"[sources[i] : sources[i]+1]
			update += "<" + source
		}
		update += "{" + someFields(r, kinds[source]) + "}"
	}
	if r.Intn(15) == 0 {
		i := r.Intn(len(update))
		update = update[:i] + pick(r, updateBytes) + update[i+1:]
	}
	return update
}

func someFields(r *rand.Rand, source map[string]byte) string {
	var numbers, refs string
	for _, letter := range strings.Split("x,n,m,y", ",") {
		switch source[letter] {
		case 0:
		case 'r':
			refs += letter
		default:
			numbers += letter
		}
	}
	var fields []string
	for _, letter := range r.Perm(5)[:r.Intn(6)] {
		kind := pick(r, "bhwlr")
		field := "xnmyz"[letter:letter+1] + ":" + kind
		switch {
		case r.Intn(3) == 0:
		case kind != "r":
			field += "=" + randomSum(r, numbers, 0) + []string{"", "", "!"}[r.Intn(3)]
		case refs != "":
			field += "=" + pick(r, refs+"0")
		}
		fields = append(fields, field)
	}
	return strings.Join(fields, ",")
}
