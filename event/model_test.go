package event_test

import (
	"fmt"
	"math/big"
	"regexp"
	"slices"
	"strconv"
	"strings"
	"testing"

	"dole/api"
	"dole/event"
)

// The forms of what stands in a line, by the chapter's words.
const (
	place = `(0|[1-9][0-9]*)`
	count = `(0|-?[1-9][0-9]*)`
	part  = `(?:0|[1-9][0-9]?)(?:-(?:0|[1-9][0-9]?))?`
	ps    = `(none|` + part + `(?:,` + part + `)*)`
)

// forms are those of each kind's line, without its byte 10.
func forms() []*regexp.Regexp {
	var l []*regexp.Regexp
	for i, word := range words() {
		b, n, m, mask := has(i + 1)
		form := word + " " + place
		for _, f := range []struct {
			has  bool
			form string
		}{{b, place}, {n, count}, {m, count}, {mask, ps}} {
			if f.has {
				form += " " + f.form
			}
		}
		l = append(l, regexp.MustCompile(`\A`+form+`\z`))
	}
	return l
}

// model reads by forms.
type model struct{ forms []*regexp.Regexp }

func newModel() *model { return &model{forms()} }

// parse goes by lines that are cut apart as a whole.
func (o *model) parse(s string) ([]api.Event, int, api.Errno) {
	lines := strings.Split(s, "\n")
	tail := lines[len(lines)-1]
	lines = lines[:len(lines)-1]
	many := len(lines)
	if tail != "" {
		many++
	}
	if many > most {
		return nil, 0, errFull
	}
	var l []api.Event
	for i, line := range lines {
		e, err := o.line(line)
		if err != ok {
			return nil, i, err
		}
		l = append(l, e)
	}
	if tail != "" {
		return nil, len(lines), errForm
	}
	return l, 0, ok
}

func (o *model) line(line string) (api.Event, api.Errno) {
	for i, form := range o.forms {
		texts := form.FindStringSubmatch(line)
		if texts == nil {
			continue
		}
		return filled(i+1, texts[1:])
	}
	return api.Event{}, errForm
}

// filled is the event of a kind with the fields of those texts.
func filled(kind int, texts []string) (api.Event, api.Errno) {
	e := api.Event{Kind: kind}
	fits := true
	take := func() int64 {
		n, _ := new(big.Int).SetString(texts[0], 10)
		texts = texts[1:]
		fits = fits && n.IsInt64()
		return n.Int64()
	}
	b, n, m, mask := has(kind)
	e.A = int(take())
	if b {
		e.B = int(take())
	}
	if n {
		e.N = take()
	}
	if m {
		e.M = take()
	}
	if !fits {
		return api.Event{}, errForm
	}
	if mask {
		set, is := joined(texts[0])
		if !is {
			return api.Event{}, errArg
		}
		e.Mask = set
	}
	return e, ok
}

// joined is the set of a text that has the form of one; false: a number of it may not be.
func joined(s string) (uint64, bool) {
	if s == "none" {
		return 0, true
	}
	var set uint64
	for _, row := range strings.Split(s, ",") {
		one, two, is := strings.Cut(row, "-")
		if !is {
			two = one
		}
		a, _ := strconv.Atoi(one)
		b, _ := strconv.Atoi(two)
		if a > 63 || b > 63 || b < a {
			return 0, false
		}
		for p := a; p <= b; p++ {
			set |= 1 << p
		}
	}
	return set, true
}

// written is an event's text, by the chapter's words.
func written(e api.Event) string {
	s := fmt.Sprint(words()[e.Kind-1], " ", e.A)
	b, n, m, mask := has(e.Kind)
	if b {
		s += fmt.Sprint(" ", e.B)
	}
	if n {
		s += fmt.Sprint(" ", e.N)
	}
	if m {
		s += fmt.Sprint(" ", e.M)
	}
	if mask {
		s += " " + rows(e.Mask)
	}
	return s + "\n"
}

// rows goes over the numbers one by one, and writes down each row as it ends.
func rows(m uint64) string {
	var l []string
	first := -1
	for p := range 65 {
		in := p < 64 && m>>p&1 == 1
		switch {
		case in && first < 0:
			first = p
		case !in && first == p-1 && first >= 0:
			l = append(l, fmt.Sprint(first))
			first = -1
		case !in && first >= 0:
			l = append(l, fmt.Sprint(first, "-", p-1))
			first = -1
		}
	}
	if l == nil {
		return "none"
	}
	return strings.Join(l, ",")
}

// checked holds Parse to the model; met counts each answer.
type checked struct {
	t   *testing.T
	o   *model
	met map[api.Errno]int
}

func newChecked(t *testing.T) *checked { return &checked{t, newModel(), map[api.Errno]int{}} }

// parse holds P19.2, and P19.3: what is read may be, and its text is read as the same.
func (c *checked) parse(s string) {
	c.t.Helper()
	want, wantAt, wantErr := c.o.parse(s)
	c.met[wantErr]++
	l, at, err := event.Parse(s)
	if !slices.Equal(l, want) || at != wantAt || err != wantErr {
		c.t.Fatalf("Parse(%q): %v, %d, %d; wanted %v, %d, %d", head(s), front(l), at, err, front(want), wantAt, wantErr)
	}
	if err != ok {
		return
	}
	for _, e := range l {
		if !event.May(e) {
			c.t.Fatalf("Parse(%q) tells %v, which may not be", head(s), e)
		}
	}
	c.back(l)
}

// back holds P19.1 and P19.3 of events that may be.
func (c *checked) back(l []api.Event) {
	c.t.Helper()
	var want strings.Builder
	for _, e := range l {
		want.WriteString(written(e))
	}
	text, err := event.Text(l)
	if text != want.String() || err != ok {
		c.t.Fatalf("Text(%v): %q, %d; wanted %q", front(l), head(text), err, head(want.String()))
	}
	again, at, err := event.Parse(text)
	if !slices.Equal(again, l) || at != 0 || err != ok {
		c.t.Fatalf("%v: written %q, and read as %v, %d, %d", front(l), head(text), front(again), at, err)
	}
}

// often holds a test to have met some answers, so that it is not sound for want of any.
func (c *checked) often(l ...api.Errno) {
	c.t.Helper()
	for _, e := range l {
		if c.met[e] < 100 {
			c.t.Errorf("%d: but %d times", e, c.met[e])
		}
	}
}

// chance is a row of numbers without a pattern, the same ones each time.
type chance uint64

func newChance() *chance {
	c := chance(88172645463325252)
	return &c
}

func (c *chance) next() uint64 {
	x := uint64(*c)
	x ^= x << 13
	x ^= x >> 7
	x ^= x << 17
	*c = chance(x)
	return x
}

func (c *chance) below(n int) int { return int(c.next() >> 8 % uint64(n)) }

// number is one of any size, below 0 or above.
func (c *chance) number() int64 { return int64(c.next()) >> c.below(64) }

// place is likewise one that isn't below 0.
func (c *chance) place() int { return int(c.next()>>1) >> c.below(63) }

// mask is thick or thin, or all, or none.
func (c *chance) mask() uint64 {
	x, y := c.next(), c.next()
	return []uint64{x, x & y, x | y, x & y & c.next(), x & (x << 1), 1 << (x % 64), 0, every}[c.below(8)]
}

// event is one that may be.
func (c *chance) event() api.Event {
	e := api.Event{Kind: 1 + c.below(15), A: c.place()}
	b, n, m, mask := has(e.Kind)
	if b {
		e.B = c.place()
	}
	if n {
		e.N = c.number()
	}
	if m {
		e.M = c.number()
	}
	if mask {
		e.Mask = c.mask()
	}
	return e
}

// odd are pieces that a text is spoilt with: bytes, figures and signs, and a rune of several bytes.
func odd() []string {
	return []string{" ", "\n", "-", "+", ",", "0", "1", "6", "9", "a", "e", "N", "_", ".", "\x00", "\r", "\t", "\xff", "é"}
}

// edits calls f with each text that is one piece, or one byte, away from s.
func edits(s string, f func(s string)) {
	f(s)
	for i := range len(s) {
		f(s[:i] + s[i+1:])
		f(s[:i] + s[i:i+1] + s[i:])
		for j := i + 1; j < len(s); j++ {
			f(s[:i] + s[j:j+1] + s[i+1:j] + s[i:i+1] + s[j+1:])
		}
		for _, piece := range odd() {
			f(s[:i] + piece + s[i+1:])
			f(s[:i] + piece + s[i:])
		}
	}
	for _, piece := range odd() {
		f(s + piece)
	}
}

// TestEdits holds P19.2 of all texts that are near to right lines, and to wrong ones.
func TestEdits(t *testing.T) {
	c := newChecked(t)
	var l []string
	for _, p := range pairs() {
		l = append(l, p.text, "wake 1\n"+p.text)
	}
	for s := range wrong() {
		if len(s) < 24 {
			l = append(l, s+"\n")
		}
	}
	for _, s := range l {
		edits(s, c.parse)
	}
	c.often(ok, errForm, errArg)
}

// TestWordsTwice holds P19.2 of each word ahead of each row of fields that one has: its own one alone is right.
func TestWordsTwice(t *testing.T) {
	c := newChecked(t)
	for _, word := range append(words(), "", "jump", "Group", "groups", "mas") {
		for _, first := range []string{"", " 3", " -3", " none", " 0-3"} {
			for _, second := range []string{"", " 4", " -4", " none", " 0-4", " 70"} {
				for _, third := range []string{"", " 5", " -5", " none", " 0-5", " 70"} {
					for _, fourth := range []string{"", " 6", " none"} {
						c.parse(word + first + second + third + fourth + "\n")
					}
				}
			}
		}
	}
	c.often(ok, errForm)
}

// TestPieces holds P19.2 of all texts of at most five of a few pieces.
func TestPieces(t *testing.T) {
	c := newChecked(t)
	pieces := []string{"wake", "tick", "mask", " ", "0", "1", "7", "-", ",", "none", "\n"}
	var grow func(s string, left int)
	grow = func(s string, left int) {
		c.parse(s)
		if left == 0 {
			return
		}
		for _, piece := range pieces {
			grow(s+piece, left-1)
		}
	}
	grow("", 5)
	for _, ahead := range []string{"wake ", "move 1 ", "tick 0 ", "mask 2 ", "spawn 2 -1 "} {
		grow(ahead, 5)
	}
	c.often(ok, errForm, errArg)
}

// TestFigures holds P19.2 of numbers about the ends of what there is, in each field that is one, with what may stand ahead of them.
func TestFigures(t *testing.T) {
	c := newChecked(t)
	var l []*big.Int
	for _, bits := range []uint{0, 3, 8, 16, 31, 32, 33, 53, 62, 63, 64, 65, 128} {
		p := new(big.Int).Lsh(big.NewInt(1), bits)
		for d := int64(-3); d <= 3; d++ {
			n := new(big.Int).Add(p, big.NewInt(d))
			l = append(l, n, new(big.Int).Neg(n))
		}
	}
	for _, n := range l {
		for _, sign := range []string{"", "-", "+", "0", "00", "-0", " "} {
			s := sign + n.String()
			for _, form := range []string{"wake %s", "move %s 1", "move 1 %s", "tick %s 1", "tick 1 %s", "quota %s 1 2", "quota 1 %s 2", "quota 1 2 %s", "spawn %s 1 none", "spawn 1 %s none", "spawn 1 %s 64", "spawn 1 1 %s", "mask %s none", "mask 1 %s"} {
				c.parse(fmt.Sprintf(form, s) + "\n")
			}
		}
	}
	c.often(ok, errForm, errArg)
}

// TestAround holds P19.1 and P19.3 of events without a pattern: what may be is written, and read as it was.
func TestAround(t *testing.T) {
	c := newChecked(t)
	rnd := newChance()
	for range 3000 {
		var l []api.Event
		for range rnd.below(20) {
			l = append(l, rnd.event())
		}
		for _, e := range l {
			if !event.May(e) {
				t.Fatalf("May(%v): false", e)
			}
		}
		c.back(l)
	}
	for _, n := range []int{most - 1, most} {
		var l []api.Event
		for range n {
			l = append(l, rnd.event())
		}
		c.back(l)
	}
}

// spoilt is a script, now and then with one piece or several put in, or left out.
func spoilt(c *chance) string {
	var s string
	for range c.below(8) {
		s += written(c.event())
	}
	for range c.below(4) {
		at := c.below(len(s) + 1)
		to := min(len(s), at+c.below(3))
		s = s[:at] + odd()[c.below(len(odd()))] + s[to:]
	}
	return s
}

// TestScripts holds P19.2 of scripts without a pattern, half of which are spoilt.
func TestScripts(t *testing.T) {
	c := newChecked(t)
	rnd := newChance()
	for range 60000 {
		c.parse(spoilt(rnd))
	}
	c.often(ok, errForm)
}

// TestMasks holds P19.2 and P19.3 of masks of several parts in any order, a few of which have a number that may not be.
func TestMasks(t *testing.T) {
	c := newChecked(t)
	rnd := newChance()
	for range 30000 {
		var parts []string
		for range 1 + rnd.below(6) {
			a, b := rnd.below(64), rnd.below(64)
			if b < a && rnd.below(20) > 0 {
				a, b = b, a
			}
			if rnd.below(40) == 0 {
				b += 40
			}
			part := strconv.Itoa(a)
			if rnd.below(2) == 0 {
				part += "-" + strconv.Itoa(b)
			}
			parts = append(parts, part)
		}
		s := strings.Join(parts, ",")
		c.parse("mask " + strconv.Itoa(rnd.below(9)) + " " + s + "\n")
		c.parse("wake 0\nspawn 1 " + strconv.Itoa(rnd.below(9)-4) + " " + s + "\nwake 1\n")
	}
	c.often(ok, errArg)
}

// TestManyLines holds P19.2 of as many lines as there may be, or some more or fewer, one of which may be wrong.
func TestManyLines(t *testing.T) {
	c := newChecked(t)
	for n := most - 2; n <= most+2; n++ {
		_, s := ticks(n)
		lines := strings.SplitAfter(s, "\n")
		for _, bad := range []string{"\n", "mask 1 64\n", "x\n", "wake 1\n\n", "", "\n\n\n"} {
			for _, at := range []int{0, 1, n / 2, n - 1} {
				l := slices.Clone(lines)
				l[at] = bad
				text := strings.Join(l, "")
				c.parse(text)
				c.parse(text + "x")
				c.parse(strings.TrimSuffix(text, "\n"))
			}
		}
	}
	c.often(errFull, errForm)
}

// wantMay is May by the chapter's words.
func wantMay(e api.Event) bool {
	if e.Kind < 1 || e.Kind > 15 || e.A < 0 || e.B < 0 {
		return false
	}
	b, n, m, mask := has(e.Kind)
	return (b || e.B == 0) && (n || e.N == 0) && (m || e.M == 0) && (mask || e.Mask == 0)
}

// TestMayAll holds P19.1 of May, and of Text of one event, of all kinds and a few numbers in all five places.
func TestMayAll(t *testing.T) {
	c := newChecked(t)
	few := []int{-1, 0, 1, great}
	for kind := -1; kind <= 17; kind++ {
		for _, a := range few {
			for _, b := range few {
				for _, n := range []int64{least, 0, 1} {
					for _, m := range []int64{-1, 0, great} {
						for _, mask := range []uint64{0, 1, every} {
							e := api.Event{Kind: kind, A: a, B: b, N: n, M: m, Mask: mask}
							may(t, e, wantMay(e))
							if wantMay(e) {
								c.back([]api.Event{e})
							}
						}
					}
				}
			}
		}
	}
}
