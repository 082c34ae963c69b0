package remake_test

import (
	"math/rand"
	"regexp"
	"sort"
	"strings"
	"testing"

	"remake/api"
	"remake/remake"
)

func TestFitsOfExamples(t *testing.T) {
	const (
		old  = "P{x:w,n:r}"
		two  = "P{x:w,n:r,y:b}Q{a:l,b:r}"
		six  = "P{a:b,b:h,c:w,d:l,e:r,f:b}"
		many = "A{}B{}C{}D{}E{}F{}"
	)
	full := "P{x:w=" + strings.Repeat("1+", 96) + "1}" // 200 bytes
	for _, c := range []struct {
		schema, update string
		e              api.Errno
		place          int
	}{
		// What fits.
		{old, "P{x:b=x*2+1,n:r}", api.OK, 0},
		{old, "P{}", api.OK, 0},
		{old, "Q{}", api.OK, 0},
		{old, "P<P{}", api.OK, 0},
		{old, "Q<P{m:r=n,y:l=x-x*(x+0)!}", api.OK, 0},
		{old, "Q<P{x:w=x}R{}", api.OK, 0},
		{two, "P<Q{n:r=b,x:h=a}Q<P{a:l=y+x,b:r=n}", api.OK, 0},
		{two, "A<Q{q:w=a}P{q:w=y}B{b:r=0}", api.OK, 0},
		{old, "P{n:r=0,m:r=n,l:r=n,k:r,x:r}", api.OK, 0},
		{old, "Z{a:b=999999999,b:h=0,c:w=100!,d:r=0}", api.OK, 0},
		{old, "P{x:w=((((((x))))))+((((((1))))))}", api.OK, 0},
		{old, "P{x:w=((((((1)+2))))*(x))}", api.OK, 0},
		{old, many, api.OK, 0},
		{many, "P{x:w=1}", api.OK, 0},
		{old, six, api.OK, 0},
		{old, full, api.OK, 0},
		// The schema's faults go ahead of the update's.
		{"", "", api.ErrSyntax, 0},
		{"P{x:w", strings.Repeat("?", 201), api.ErrSyntax, 5},
		{"P{}P{}", "P{", api.ErrTwice, 3},
		{strings.Repeat("?", 201), "", api.ErrLong, 0},
		{"Q<P{}", "P{}", api.ErrSyntax, 1},
		{"P{x:w=1}", "P{}", api.ErrSyntax, 5},
		// Its length.
		{old, full + "?", api.ErrLong, 0},
		{old, strings.Repeat("?", 200), api.ErrSyntax, 0},
		{old, strings.Repeat("?", 201), api.ErrLong, 0},
		{old, full[:199], api.ErrSyntax, 199},
		{old, full[:199] + "!", api.ErrSyntax, 200},
		{old, full[:199] + "?", api.ErrSyntax, 199},
		// Its form.
		{old, "", api.ErrSyntax, 0},
		{old, "p{}", api.ErrSyntax, 0},
		{old, "P", api.ErrSyntax, 1},
		{old, "P<", api.ErrSyntax, 2},
		{old, "P<p{}", api.ErrSyntax, 2},
		{old, "P<<P{}", api.ErrSyntax, 2},
		{old, "P<Q<R{}", api.ErrSyntax, 3},
		{old, "P>Q{}", api.ErrSyntax, 1},
		{old, "<P{}", api.ErrSyntax, 0},
		{old, "P<P", api.ErrSyntax, 3},
		{old, "P{x:w=}", api.ErrSyntax, 6},
		{old, "P{x:w=", api.ErrSyntax, 6},
		{old, "P{x:w=-1}", api.ErrSyntax, 6},
		{old, "P{x:w=!}", api.ErrSyntax, 6},
		{old, "P{x:w=X}", api.ErrSyntax, 6},
		{old, "P{x:w=1*}", api.ErrSyntax, 8},
		{old, "P{x:w=1*-1}", api.ErrSyntax, 8},
		{old, "P{x:w=1/1}", api.ErrSyntax, 7},
		{old, "P{x:w=1x}", api.ErrSyntax, 7},
		{old, "P{x:w=x1}", api.ErrSyntax, 7},
		{old, "P{x:w=x(1)}", api.ErrSyntax, 7},
		{old, "P{x:w=(1)x}", api.ErrSyntax, 9},
		{old, "P{x:w=(1)(1)}", api.ErrSyntax, 9},
		{old, "P{x:w=(1,1)}", api.ErrSyntax, 8},
		{old, "P{x:w=(1!)}", api.ErrSyntax, 8},
		{old, "P{x:w=(1)!}", api.OK, 0},
		{old, "P{x:w=1!+1}", api.ErrSyntax, 8},
		{old, "P{x:w=1!!}", api.ErrSyntax, 8},
		{old, "P{x:w=1=1}", api.ErrSyntax, 7},
		{old, "P{x:w!}", api.ErrSyntax, 5},
		{old, "P{x=1}", api.ErrSyntax, 3},
		{old, "P{x:w=1))}", api.ErrSyntax, 7},
		{old, "P{x:w=00}", api.ErrSyntax, 7},
		{old, "P{x:w=1+07}", api.ErrSyntax, 9},
		{old, "P{x:w=999999999}", api.OK, 0},
		{old, "P{x:w=1000000000}", api.ErrSyntax, 15},
		{old, "P{x:w=100000000}", api.OK, 0},
		{old, "P{x:w=((((((1))))))}", api.OK, 0},
		{old, "P{x:w=(((((((1)))))))}", api.ErrSyntax, 12},
		{old, "P{x:w=(((((((", api.ErrSyntax, 12},
		{old, "P{x:w=((((((", api.ErrSyntax, 12},
		{old, "P{x:w=x}\x00", api.ErrSyntax, 8},
		{old, "P{x:w=x\x00}", api.ErrSyntax, 7},
		{old, "P{x:w=\xff}", api.ErrSyntax, 6},
		{old, many + "G<P{}", api.ErrSyntax, 18},
		{old, six[:25] + "=1,g:b}", api.ErrSyntax, 27},
		// A syntax fault goes ahead of all that follow, wherever they stand.
		{old, "P{x:w=q,x:w}P<Z{}P{", api.ErrSyntax, 19},
		// Letters that stand twice.
		{old, "P{x:w=1,x:w}", api.ErrTwice, 8},
		{old, "Z{}Z<P{}", api.ErrTwice, 3},
		{old, "Z<P{}Z{}", api.ErrTwice, 5},
		{old, "P{a:w,b:w,b:w,a:w}", api.ErrTwice, 10},
		{old, "P{x:w=x+x,y:w=x}", api.OK, 0},
		// Sources that stand twice.
		{old, "Q<P{}P{}", api.ErrTwice, 5},
		{old, "P{}Q<P{}", api.ErrTwice, 3},
		{old, "P<P{}Q<P{}", api.ErrTwice, 5},
		{old, "Q<P{}R<P{}S<P{}", api.ErrTwice, 5},
		{old, "A{}Q<P{}B{}P{}", api.ErrTwice, 11},
		{old, "R<Z{}S<Z{}", api.ErrTwice, 5},
		{old, "R<Z{}Z{}", api.ErrClass, 2},
		{old, "Z{}R<Z{}", api.ErrClass, 5},
		{two, "P<Q{}Q{}", api.ErrTwice, 5},
		{two, "P<Q{}Q<P{}", api.OK, 0},
		{old, "Q<P{a:w,a:w}P{}", api.ErrTwice, 8},
		{old, "Q<P{}P{a:w,a:w}", api.ErrTwice, 5},
		{old, "Z<P{}Y<P{}Z{}", api.ErrTwice, 5},
		{old, "Z<P{}Z{}Y<P{}", api.ErrTwice, 5},
		{old, "Q{x:w=q}Q{}", api.ErrTwice, 8},
		{old, "R<Z{q:w=q}S<Z{}", api.ErrTwice, 10},
		// Classes, fields, kinds: the one at the least place.
		{old, "Q<R{}", api.ErrClass, 2},
		{old, "P<R{}", api.ErrClass, 2},
		{old, "Q<R{x:w=x}", api.ErrClass, 2},
		{old, "P{x:w=q}Q<R{}", api.ErrField, 6},
		{old, "P{x:w=n}Q<R{}", api.ErrKind, 6},
		{old, "P{x:w}Q<R{}", api.ErrClass, 8},
		{old, "P{x:w=y}", api.ErrField, 6},
		{old, "Q{x:w=x}", api.ErrField, 6},
		{old, "Q{n:r=n}", api.ErrField, 6},
		{old, "Q{x:w=x}P{}", api.ErrField, 6},
		{old, "P{y:w,x:w=y}", api.ErrField, 10},
		{two, "P{x:w=a}", api.ErrField, 6},
		{two, "P<Q{x:w=x}", api.ErrField, 8},
		{two, "P<Q{x:w=a}", api.OK, 0},
		{old, "P{x:w=1*(2-(q))}", api.ErrField, 12},
		{old, "P{x:w=n}", api.ErrKind, 6},
		{old, "P{x:w=(n)}", api.ErrKind, 7},
		{old, "P{x:w=x+n!}", api.ErrKind, 8},
		{old, "P{x:w=n+q}", api.ErrKind, 6},
		{old, "P{x:w=q+n}", api.ErrField, 6},
		{old, "P{x:w=x*n+q*n}", api.ErrKind, 8},
		{old, "P{x:l=n,n:r=x}", api.ErrKind, 6},
		{old, "P{n:r=x}", api.ErrKind, 6},
		{old, "P{n:r=q}", api.ErrField, 6},
		{old, "P{n:r=q!}", api.ErrField, 6},
		{old, "P{n:r=q+n}", api.ErrField, 6},
		{old, "P{n:r=q*0}", api.ErrField, 6},
		{old, "P{n:r=(q)}", api.ErrKind, 6},
		{old, "P{n:r=(q+1)}", api.ErrKind, 6},
		{old, "P{n:r=x+q}", api.ErrKind, 6},
		{old, "P{n:r=0+q}", api.ErrKind, 6},
		{old, "P{n:r=1}", api.ErrKind, 6},
		{old, "P{n:r=0!}", api.ErrKind, 6},
		{old, "P{n:r=n!}", api.ErrKind, 6},
		{old, "P{n:r=(n)}", api.ErrKind, 6},
		{old, "P{n:r=(0)}", api.ErrKind, 6},
		{old, "P{n:r=0+0}", api.ErrKind, 6},
		{old, "P{n:r=n*1}", api.ErrKind, 6},
		{old, "P{n:r=n-0}", api.ErrKind, 6},
		{old, "P{m:r=n,n:r=(n)}", api.ErrKind, 12},
	} {
		if e, place := remake.Fits(c.schema, c.update); e != c.e || place != c.place {
			t.Errorf("P4: Fits(%q, %q) = %d, %d, want %d, %d", c.schema, c.update, e, place, c.e, c.place)
		}
		if e, place := wantedFits(c.schema, c.update); e != c.e || place != c.place {
			t.Errorf("the test's own reading: Fits(%q, %q) = %d, %d, want %d, %d", c.schema, c.update, e, place, c.e, c.place)
		}
	}
}

var (
	inBrackets = regexp.MustCompile(`\(` + flatSum + `\)`)
	flatForm   = regexp.MustCompile(`^(?s:[A-Z](<[A-Z])?\{(` + flatField + `(,` + flatField + `){0,5})?\}){1,6}\z`)
)

const (
	flatSum   = `(?:_|[a-z]|0|[1-9][0-9]{0,8})(?:[-+*](?:_|[a-z]|0|[1-9][0-9]{0,8}))*`
	flatField = `[a-z]:[bhwlr](?:=` + flatSum + `!?)?`
)

// isUpdate: whether the text has the form of an update: brackets are taken
// away from the inside to the outside, at most six times.
func isUpdate(text string) bool {
	if strings.Contains(text, "_") {
		return false
	}
	for i := 0; i < 6 && strings.Contains(text, "("); i++ {
		text = inBrackets.ReplaceAllString(text, "_")
	}
	return flatForm.MatchString(text)
}

// beginsUpdate: whether some update begins with the text. If one does, then so
// does the text with one of these endings.
func beginsUpdate(text string) bool {
	open := strings.Count(text, "(") - strings.Count(text, ")")
	if open < 0 {
		return false
	}
	closing := strings.Repeat(")", open) + "}"
	for _, ending := range []string{"", "{}", "A{}", "b}", ":b}", "a:b}", closing, "0" + closing} {
		if isUpdate(text + ending) {
			return true
		}
	}
	return false
}

type fault struct {
	e     api.Errno
	place int
}

var classForm = regexp.MustCompile(`([A-Z])(?:<([A-Z]))?\{([^}]*)\}`)

// kindsOf: the fields of each class of a schema, and their kinds. Of a Letter that is no class's: nil.
func kindsOf(schema string) map[string]map[string]byte {
	kinds := map[string]map[string]byte{}
	for _, c := range classForm.FindAllStringSubmatch(schema, -1) {
		kinds[c[1]] = map[string]byte{}
		for _, f := range strings.Split(c[3], ",") {
			if f != "" {
				kinds[c[1]][f[:1]] = f[2]
			}
		}
	}
	return kinds
}

// doubles: all places of ErrTwice.
func doubles(kinds map[string]map[string]byte, update string) []fault {
	var found []fault
	letters, sources := map[string]bool{}, map[string]bool{}
	for _, at := range classForm.FindAllStringSubmatchIndex(update, -1) {
		letter := update[at[2]:at[3]]
		source := letter
		if at[4] >= 0 {
			source = update[at[4]:at[5]]
		}
		isMade := at[4] >= 0 || kinds[letter] != nil
		if letters[letter] || (isMade && sources[source]) {
			found = append(found, fault{api.ErrTwice, at[2]})
		}
		letters[letter] = true
		if isMade {
			sources[source] = true
		}
		fields := map[byte]bool{}
		for i := at[6]; i+1 < at[7]; i++ {
			if update[i+1] == ':' {
				if fields[update[i]] {
					found = append(found, fault{api.ErrTwice, i})
				}
				fields[update[i]] = true
			}
		}
	}
	return found
}

// misfits: all places of ErrClass, ErrField and ErrKind.
func misfits(kinds map[string]map[string]byte, update string) []fault {
	var found []fault
	for _, at := range classForm.FindAllStringSubmatchIndex(update, -1) {
		source := kinds[update[at[2]:at[3]]]
		if at[4] >= 0 {
			source = kinds[update[at[4]:at[5]]]
			if source == nil {
				found = append(found, fault{api.ErrClass, at[4]})
			}
		}
		place := at[6]
		for _, f := range strings.Split(update[at[6]:at[7]], ",") {
			if len(f) > 3 {
				found = append(found, misfitsOfSum(source, f[2], f[4:], place+4)...)
			}
			place += len(f) + 1
		}
	}
	return found
}

func misfitsOfSum(source map[string]byte, kind byte, sum string, place int) []fault {
	var found []fault
	for i := range sum {
		if sum[i] < 'a' || sum[i] > 'z' {
			continue
		}
		if source[sum[i:i+1]] == 0 {
			found = append(found, fault{api.ErrField, place + i})
		}
		if kind != 'r' && source[sum[i:i+1]] == 'r' {
			found = append(found, fault{api.ErrKind, place + i})
		}
	}
	if kind == 'r' && sum != "0" && source[sum] != 'r' {
		found = append(found, fault{api.ErrKind, place})
	}
	return found
}

// least: the fault at the least place; of two there the one that is named first.
func least(found []fault) (api.Errno, int) {
	sort.Slice(found, func(i, j int) bool {
		if found[i].place != found[j].place {
			return found[i].place < found[j].place
		}
		return found[i].e < found[j].e
	})
	return found[0].e, found[0].place
}

// wantedFits: what P4 asks of Fits, word by word.
func wantedFits(schema string, update string) (api.Errno, int) {
	if e, place := wanted(schema); e != api.OK {
		return e, place
	}
	if len(update) > 200 {
		return api.ErrLong, 0
	}
	if !isUpdate(update) {
		return api.ErrSyntax, sort.Search(len(update), func(i int) bool { return !beginsUpdate(update[:i+1]) })
	}
	kinds := kindsOf(schema)
	if found := doubles(kinds, update); len(found) > 0 {
		return least(found)
	}
	if found := misfits(kinds, update); len(found) > 0 {
		return least(found)
	}
	return api.OK, 0
}

func compareFits(t *testing.T, schema string, update string) api.Errno {
	t.Helper()
	e, place := wantedFits(schema, update)
	if gotE, got := remake.Fits(schema, update); gotE != e || got != place {
		t.Errorf("P4: Fits(%q, %q) = %d, %d, want %d, %d", schema, update, gotE, got, e, place)
	}
	return e
}

const updateBytes = "PQZ@[abnrxyz`{}:,=<!()+-*/0179 \x00\xff"

// TestFitsOfChangedTexts: texts that are updates, changed.
func TestFitsOfChangedTexts(t *testing.T) {
	for _, text := range []string{
		"Q<P{x:b=x*20-(1+x)!,n:r=n}P<Q{}",
		"P{a:b,b:h=0,c:w,d:l,e:r=0,f:b=x}R{q:b}",
		"A{}B{b:l}C{}D{}P{z:h=x}F<Q{a:l=a}",
		"P{x:l=((((((x)))))+987654321)*10}",
	} {
		for _, changed := range changes(text, updateBytes) {
			compareFits(t, "P{x:w,n:r}Q{a:l,b:r}", changed)
		}
	}
}

// TestFitsOfShortSums: every sum of up to four bytes of those that stand in one, of both sorts of fields.
func TestFitsOfShortSums(t *testing.T) {
	bytes := "xnq01(+*)!"
	sums := []string{""}
	for n := 0; n <= 4; n++ {
		var longer []string
		for _, sum := range sums {
			compareFits(t, "P{x:w,n:r}", "P{a:r="+sum+"}")
			compareFits(t, "P{x:w,n:r}", "P{a:h="+sum+"}")
			for j := range len(bytes) {
				longer = append(longer, sum+bytes[j:j+1])
			}
		}
		sums = longer
	}
}

// TestFitsOfShortClasses: every row of up to four classes of those that can be at odds with one another.
func TestFitsOfShortClasses(t *testing.T) {
	parts := []string{"P{}", "Q{}", "P<P{}", "P<Q{}", "Q<P{}", "Q<Z{}", "Z{}", "Z<P{}", "Y<Z{}", "Y{a:w=x}", "X<Q{a:b,a:b}"}
	texts := []string{""}
	for n := 0; n <= 4; n++ {
		var longer []string
		for _, text := range texts {
			compareFits(t, "P{x:w}Q{}", text)
			for _, part := range parts {
				longer = append(longer, text+part)
			}
		}
		texts = longer
	}
}

func pick(r *rand.Rand, from string) string {
	i := r.Intn(len(from))
	return from[i : i+1]
}

// randomSum: a sum of numbers and of these letters, which stands within so many brackets.
func randomSum(r *rand.Rand, letters string, deep int) string {
	var sum string
	switch n := r.Intn(8); {
	case n == 0 && deep < 6:
		sum = "(" + randomSum(r, letters, deep+1) + ")"
	case n < 3 || letters == "":
		sum = []string{"0", "1", "10", "999999999"}[r.Intn(4)]
	default:
		sum = pick(r, letters)
	}
	if r.Intn(3) == 0 {
		sum += pick(r, "+-*") + randomSum(r, letters, deep)
	}
	return sum
}

func randomText(r *rand.Rand, updates bool) string {
	text := ""
	for classes := r.Intn(3); classes >= 0; classes-- {
		text += pick(r, "PQRS")
		if updates && r.Intn(2) == 0 {
			text += "<" + pick(r, "PQRS")
		}
		text += "{"
		for fields := r.Intn(4); fields > 0; fields-- {
			text += pick(r, "abcde") + ":" + pick(r, "bhwlrr")
			if updates && r.Intn(2) == 0 {
				text += "=" + randomSum(r, "abc", 0) + []string{"", "", "!"}[r.Intn(3)]
			}
			if fields > 1 {
				text += ","
			}
		}
		text += "}"
	}
	return text
}

// TestFitsOfRandomTexts: each error, and OK, must come about.
func TestFitsOfRandomTexts(t *testing.T) {
	r := rand.New(rand.NewSource(4))
	count := map[api.Errno]int{}
	for range 30000 {
		schema := randomText(r, false)
		update := randomText(r, true)
		if len(update) > 0 && r.Intn(10) == 0 {
			i := r.Intn(len(update))
			update = update[:i] + pick(r, updateBytes) + update[i+1:]
		}
		count[compareFits(t, schema, update)]++
	}
	for _, e := range []api.Errno{api.OK, api.ErrSyntax, api.ErrTwice, api.ErrClass, api.ErrField, api.ErrKind} {
		if count[e] < 100 {
			t.Errorf("error %d came about %d times", e, count[e])
		}
	}
}

func FuzzFits(f *testing.F) {
	f.Add("P{x:w,n:r}", "P{x:b=x*2+1,n:r}")
	f.Add("P{x:w,n:r}Q{a:l,b:r}", "Q<P{x:b=x*20-(1+x)!,n:r=n}P<Q{}")
	f.Fuzz(func(t *testing.T, schema string, update string) { compareFits(t, schema, update) })
}
