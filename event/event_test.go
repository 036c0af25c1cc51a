package event_test

import (
	"math"
	"slices"
	"strconv"
	"strings"
	"testing"

	"dole/api"
	"dole/event"
)

// By the document's words.
const (
	ok      api.Errno = 0
	errArg  api.Errno = 1
	errFull api.Errno = 3
	errForm api.Errno = 11
)

const (
	least = math.MinInt64
	great = math.MaxInt64
	every = math.MaxUint64 // the mask of all Ps
	most  = 1000           // lines
)

// The calls, of the chapter's types.
var (
	_ func(string) ([]api.Event, int, api.Errno) = event.Parse
	_ func([]api.Event) (string, api.Errno)      = event.Text
	_ func(api.Event) bool                       = event.May
	_ func() []string                            = event.Words
)

// words are the chapter's, in turn.
func words() []string {
	return []string{"group", "drop", "move", "shares", "quota", "spawn", "wake", "block", "yield", "exit", "tick", "refill", "pull", "nice", "mask"}
}

// pair is an event, and its text.
type pair struct {
	e    api.Event
	text string
}

// pairs are written down by hand: of each kind a plain one, and those at the ends of each field.
func pairs() []pair {
	return []pair{
		{api.Event{Kind: 1, A: 0, N: 1024}, "group 0 1024\n"},
		{api.Event{Kind: 1, A: 31, N: -1}, "group 31 -1\n"},
		{api.Event{Kind: 1, A: great, N: least}, "group 9223372036854775807 -9223372036854775808\n"},
		{api.Event{Kind: 2}, "drop 0\n"},
		{api.Event{Kind: 2, A: 10}, "drop 10\n"},
		{api.Event{Kind: 2, A: great}, "drop 9223372036854775807\n"},
		{api.Event{Kind: 3}, "move 0 0\n"},
		{api.Event{Kind: 3, A: 2, B: 1}, "move 2 1\n"},
		{api.Event{Kind: 3, A: great - 1, B: great}, "move 9223372036854775806 9223372036854775807\n"},
		{api.Event{Kind: 4, A: 5, N: 2}, "shares 5 2\n"},
		{api.Event{Kind: 4, A: 100, N: 262144}, "shares 100 262144\n"},
		{api.Event{Kind: 5}, "quota 0 0 0\n"},
		{api.Event{Kind: 5, A: 1, N: 5000, M: 100}, "quota 1 5000 100\n"},
		{api.Event{Kind: 5, A: 2, N: -3, M: -40}, "quota 2 -3 -40\n"},
		{api.Event{Kind: 5, A: great, N: great, M: least}, "quota 9223372036854775807 9223372036854775807 -9223372036854775808\n"},
		{api.Event{Kind: 5, A: 3, N: least, M: great}, "quota 3 -9223372036854775808 9223372036854775807\n"},
		{api.Event{Kind: 6, A: 0, N: -5, Mask: 0b1111}, "spawn 0 -5 0-3\n"},
		{api.Event{Kind: 6}, "spawn 0 0 none\n"},
		{api.Event{Kind: 6, A: 12, N: 19, Mask: every}, "spawn 12 19 0-63\n"},
		{api.Event{Kind: 6, A: great, N: great, Mask: 1 << 63}, "spawn 9223372036854775807 9223372036854775807 63\n"},
		{api.Event{Kind: 7, A: 3}, "wake 3\n"},
		{api.Event{Kind: 7, A: great}, "wake 9223372036854775807\n"},
		{api.Event{Kind: 8}, "block 0\n"},
		{api.Event{Kind: 8, A: 63}, "block 63\n"},
		{api.Event{Kind: 9, A: 1}, "yield 1\n"},
		{api.Event{Kind: 10, A: 20}, "exit 20\n"},
		{api.Event{Kind: 11, A: 0, N: 1000000}, "tick 0 1000000\n"},
		{api.Event{Kind: 11, A: 1, N: -5}, "tick 1 -5\n"},
		{api.Event{Kind: 11, A: 1, N: great}, "tick 1 9223372036854775807\n"},
		{api.Event{Kind: 12, A: 4}, "refill 4\n"},
		{api.Event{Kind: 13, A: 2}, "pull 2\n"},
		{api.Event{Kind: 14, A: 6, N: -20}, "nice 6 -20\n"},
		{api.Event{Kind: 14, A: 6, N: 0}, "nice 6 0\n"},
		{api.Event{Kind: 15, A: 3}, "mask 3 none\n"},
		{api.Event{Kind: 15, A: 0, Mask: 1}, "mask 0 0\n"},
		{api.Event{Kind: 15, A: great, Mask: 0x18f}, "mask 9223372036854775807 0-3,7-8\n"},
		{api.Event{Kind: 15, A: 7, Mask: 1<<63 | 1}, "mask 7 0,63\n"},
	}
}

// writes holds Text to a text, and the events to stay as they are.
func writes(t *testing.T, l []api.Event, want string) {
	t.Helper()
	kept := slices.Clone(l)
	if s, e := event.Text(l); s != want || e != ok {
		t.Errorf("Text(%v): %q, %d; wanted %q", front(l), head(s), e, head(want))
	}
	if !slices.Equal(l, kept) {
		t.Errorf("Text(%v): the events are others then", front(kept))
	}
}

func noText(t *testing.T, l []api.Event, want api.Errno) {
	t.Helper()
	kept := slices.Clone(l)
	if s, e := event.Text(l); s != "" || e != want {
		t.Errorf("Text(%v): %q, %d; wanted %d", front(l), head(s), e, want)
	}
	if !slices.Equal(l, kept) {
		t.Errorf("Text(%v): the events are others then", front(kept))
	}
}

func parses(t *testing.T, s string, want []api.Event) {
	t.Helper()
	if l, at, e := event.Parse(s); !slices.Equal(l, want) || at != 0 || e != ok {
		t.Errorf("Parse(%q): %v, %d, %d; wanted %v", head(s), front(l), at, e, front(want))
	}
}

func refuses(t *testing.T, s string, line int, want api.Errno) {
	t.Helper()
	if l, at, e := event.Parse(s); len(l) != 0 || at != line || e != want {
		t.Errorf("Parse(%q): %v, %d, %d; wanted none, %d, %d", head(s), front(l), at, e, line, want)
	}
}

// head and front are what a fault shows of what is long.
func head(s string) string { return s[:min(len(s), 100)] }

func front(l []api.Event) []api.Event { return l[:min(len(l), 10)] }

// TestNumbers holds the kinds, and the errors, to the document's numbers.
func TestNumbers(t *testing.T) {
	kinds := []int{api.EvGroup, api.EvDrop, api.EvMove, api.EvShares, api.EvQuota, api.EvSpawn, api.EvWake, api.EvBlock, api.EvYield, api.EvExit, api.EvTick, api.EvRefill, api.EvPull, api.EvNice, api.EvMask}
	for i, k := range kinds {
		if k != i+1 {
			t.Errorf("the kind in turn %d is %d", i+1, k)
		}
	}
	if got := []api.Errno{api.OK, api.ErrArg, api.ErrFull, api.ErrForm}; !slices.Equal(got, []api.Errno{ok, errArg, errFull, errForm}) {
		t.Errorf("the errors are %v", got)
	}
}

// TestWords holds P19.1 of Words, and R3: the list is the caller's own.
func TestWords(t *testing.T) {
	first := event.Words()
	if !slices.Equal(first, words()) {
		t.Fatalf("Words: %v", first)
	}
	for i := range first {
		first[i] = "other"
	}
	_ = append(first[:0], "x", "y")
	if second := event.Words(); !slices.Equal(second, words()) {
		t.Errorf("Words: %v, behind a change of another answer", second)
	}
	if _, _, e := event.Parse("group 0 2\n"); e != ok {
		t.Errorf("Parse: %d, behind a change of Words' answer", e)
	}
}

// TestExample holds the chapter's example, the document's seventh.
func TestExample(t *testing.T) {
	parses(t, "spawn 0 -5 0-3\n", []api.Event{{Kind: api.EvSpawn, N: -5, Mask: 0b1111}})
}

// TestPairs holds P19.1 to P19.3 of each event of pairs alone, and of all together.
func TestPairs(t *testing.T) {
	var l []api.Event
	var s string
	for _, p := range pairs() {
		if !event.May(p.e) {
			t.Errorf("May(%v): false", p.e)
		}
		writes(t, []api.Event{p.e}, p.text)
		parses(t, p.text, []api.Event{p.e})
		l = append(l, p.e)
		s += p.text
	}
	writes(t, l, s)
	parses(t, s, l)
}

// TestEmpty holds R2: no events are the empty text.
func TestEmpty(t *testing.T) {
	writes(t, nil, "")
	writes(t, []api.Event{}, "")
	parses(t, "", nil)
}

// has tells which fields a kind has, by the chapter's words.
func has(kind int) (b, n, m, mask bool) {
	switch words()[kind-1] {
	case "group", "shares", "tick", "nice":
		return false, true, false, false
	case "move":
		return true, false, false, false
	case "quota":
		return false, true, true, false
	case "spawn":
		return false, true, false, true
	case "mask":
		return false, false, false, true
	}
	return false, false, false, false
}

// may holds May, and whether Text takes that event.
func may(t *testing.T, e api.Event, want bool) {
	t.Helper()
	if got := event.May(e); got != want {
		t.Errorf("May(%v): %v", e, got)
	}
	if !want {
		noText(t, []api.Event{e}, errArg)
	} else if s, err := event.Text([]api.Event{e}); s == "" || err != ok {
		t.Errorf("Text(%v): %q, %d", e, s, err)
	}
}

// TestMayFields holds P19.1 of each kind: what is a field of it may be anything (A and B not below 0), what is none must be 0.
func TestMayFields(t *testing.T) {
	odd := []int64{1, -1, 2, 1 << 32, -1 << 32, 1 << 62, least, great}
	for kind := 1; kind <= 15; kind++ {
		for _, a := range []int{0, 1, great} {
			plain := api.Event{Kind: kind, A: a}
			b, n, m, mask := has(kind)
			may(t, plain, true)
			for _, x := range odd {
				with := plain
				with.A = int(x)
				may(t, with, x >= 0)
				with = plain
				with.B = int(x)
				may(t, with, b && x >= 0)
				with = plain
				with.N = x
				may(t, with, n)
				with = plain
				with.M = x
				may(t, with, m)
				with = plain
				with.Mask = uint64(x)
				may(t, with, mask)
			}
		}
	}
}

// TestMayFull holds P19.1 of events that have something in two fields each, or in all: one that may not be is enough.
func TestMayFull(t *testing.T) {
	for kind := 1; kind <= 15; kind++ {
		b, n, m, mask := has(kind)
		for bits := range 16 {
			var e api.Event
			e.Kind = kind
			if bits&1 > 0 {
				e.B = 1
			}
			if bits&2 > 0 {
				e.N = 1
			}
			if bits&4 > 0 {
				e.M = 1
			}
			if bits&8 > 0 {
				e.Mask = 1
			}
			may(t, e, (b || e.B == 0) && (n || e.N == 0) && (m || e.M == 0) && (mask || e.Mask == 0))
			e.A = -1
			may(t, e, false)
		}
	}
}

// TestMayKind holds P19.1 of numbers that are no kinds, among them those that a narrower kind of integer would bring back to one.
func TestMayKind(t *testing.T) {
	l := []int{math.MinInt, math.MinInt + 1, math.MaxInt, math.MaxInt - 1}
	for n := -300; n <= 300; n++ {
		l = append(l, n)
	}
	for k := 1; k <= 15; k++ {
		for i := 4; i < 63; i++ {
			l = append(l, k+1<<i, k-1<<i)
		}
		l = append(l, k+math.MinInt)
	}
	for _, k := range l {
		may(t, api.Event{Kind: k}, 1 <= k && k <= 15)
	}
}

// ticks are n events, no two alike, and their text.
func ticks(n int) ([]api.Event, string) {
	var l []api.Event
	var s strings.Builder
	for i := range n {
		l = append(l, api.Event{Kind: api.EvTick, A: i, N: int64(-i)})
		s.WriteString("tick " + strconv.Itoa(i) + " " + strconv.Itoa(-i) + "\n")
	}
	return l, s.String()
}

// TestTextMost holds P19.1 of as many events as there may be, and of more.
func TestTextMost(t *testing.T) {
	for _, n := range []int{most - 1, most} {
		l, s := ticks(n)
		writes(t, l, s)
		parses(t, s, l)
	}
	for _, n := range []int{most + 1, most + 2, 2 * most, 10 * most} {
		l, _ := ticks(n)
		noText(t, l, errFull)
	}
}

// TestTextWrong holds P19.1 of one event that may not be, at each place: it is told ahead of there being too many.
func TestTextWrong(t *testing.T) {
	for _, n := range []int{1, 2, 10, most, most + 1, most + 50} {
		l, _ := ticks(n)
		for at := range l {
			kept := l[at]
			l[at].B = 1
			noText(t, l, errArg)
			l[at] = kept
		}
	}
}

// TestTextMask holds P19.1 of masks: rows of numbers as chapter 9 writes them.
func TestTextMask(t *testing.T) {
	for a := range 64 {
		for b := a; b < 64; b++ {
			want := strconv.Itoa(a)
			if b > a {
				want += "-" + strconv.Itoa(b)
			}
			m := uint64(every) << a & (uint64(every) >> (63 - b))
			writes(t, []api.Event{{Kind: api.EvMask, A: a, Mask: m}}, "mask "+strconv.Itoa(a)+" "+want+"\n")
			writes(t, []api.Event{{Kind: api.EvSpawn, A: a, N: -1, Mask: m}}, "spawn "+strconv.Itoa(a)+" -1 "+want+"\n")
			parses(t, "mask 1 "+want+"\n", []api.Event{{Kind: api.EvMask, A: 1, Mask: m}})
		}
	}
}

// wrong are lines that are none, without the byte 10, and what each one is told.
func wrong() map[string]api.Errno {
	l := map[string]api.Errno{}
	for _, s := range []string{
		// No word, or more than that.
		"", " ", "  ", "0", "jump 1", "Wake 1", "WAKE 1", "wak 1", "wakee 1", "wake1", " wake 1", "\twake 1", "wake\t1", "wake\x001", "none 1", "spawnmask 1", "groupdrop 1", "ẃake 1",
		// Too few fields, or too many.
		"wake", "wake ", "group", "group 1", "group 1 ", "move 1", "quota 1 2", "quota 1 2 ", "spawn 1 2", "spawn 1 2 ", "spawn 1 0-3", "mask 1", "mask 1 ", "mask 0-3", "mask none",
		"wake 1 ", "wake 1 2", "wake 1  ", "move 1 2 3", "group 1 2 3", "quota 1 2 3 4", "spawn 1 2 3 4", "spawn 1 2 3 ", "mask 1 2 3", "mask 1 2 ", "tick 1 2 0-3", "block 1 none",
		// Blanks, and what looks like some.
		"wake  1", "move 1  2", "mask 1  2", "mask 1 0- 3", "mask 1 0, 3", "mask 1  none", "wake\u00a01", "wake 1\r", "wake 1\t", "mask 1 none\r", "mask 1 1\r", "tick 1 2\v",
		// Figures that no number is written with.
		"wake 01", "wake 00", "wake -0", "wake +1", "wake +0", "wake - 1", "wake -", "wake 1-", "wake 1.0", "wake 1e3", "wake 0x1", "wake 0b1", "wake 0o1", "wake 1_000", "wake 1,000", "wake ١", "wake x", "wake none", "wake 0-3", "wake 1\x00", "wake 1\xff",
		"tick 01 2", "tick 1 02", "tick 1 -02", "tick 1 -0", "tick 1 +2", "tick 1 --2", "tick 1 -", "tick 1 2-", "tick 1 1_0", "tick 1 0x2", "tick 1 1e3", "tick 1 ２", "tick 1 none", "tick 1 0-3", "quota 1 2 03", "quota 1 2 -0", "quota 1 +2 3", "spawn 1 +0 3", "spawn 01 0 3",
		// Below 0, or above what there is.
		"wake -1", "drop -1", "move -1 2", "move 1 -2", "group -1 2", "quota -1 2 3", "spawn -1 2 3", "mask -1 3", "wake -9223372036854775808",
		"wake 9223372036854775808", "wake 18446744073709551615", "wake 18446744073709551616", "wake 18446744073709551617", "wake 99999999999999999999999999", "move 0 9223372036854775808", "move 0 18446744073709551616",
		"tick 0 9223372036854775808", "tick 0 -9223372036854775809", "tick 0 18446744073709551616", "quota 0 9223372036854775808 0", "quota 0 0 9223372036854775808", "quota 0 0 -9223372036854775809", "nice 9223372036854775808 0",
		// Masks of a wrong form, or in a line that is wrong elsewhere too.
		"mask 1 x", "mask 1 ,", "mask 1 1,", "mask 1 ,1", "mask 1 1-", "mask 1 -1", "mask 1 1--2", "mask 1 1-2-3", "mask 1 01", "mask 1 100", "mask 1 None", "mask 1 none,1", "mask 1 nonee", "mask 1 1,none", "mask 1 none-3", "mask 1 0x1", "mask 1 +1", "spawn 1 0 x", "spawn 1 0 1,", "spawn 1 0 None",
		"mask 1 64,", "mask 1 64,x", "mask 1 3-1-", "mask 1 100,64", "mask 64", "mask 01 64", "mask -1 64", "mask x 64", "mask 1 64 ", "mask 1  64", "mask 1 64 1", "mask 1 64 64", "mask 9223372036854775808 64", "Mask 1 64", "maskk 1 64", "jump 1 64", " mask 1 64", "mask 1 64\r",
		"spawn 1 64", "spawn 1 x 64", "spawn 1 02 64", "spawn 01 2 64", "spawn -1 2 64", "spawn 1 2 64 ", "spawn 1  64", "spawn 1 2 64 1", "spawn 1 9223372036854775808 64",
	} {
		l[s] = errForm
	}
	for _, s := range []string{"64", "99", "0-64", "64-65", "3-1", "63-0", "1,64", "64,1", "5-4,1", "0-63,99-98"} {
		l["mask 1 "+s] = errArg
		l["mask 9223372036854775807 "+s] = errArg
		l["spawn 1 -20 "+s] = errArg
		l["spawn 0 9223372036854775807 "+s] = errArg
	}
	return l
}

// TestParseWrong holds P19.2 of each line that is wrong, alone, ahead of right ones, behind them and between them.
func TestParseWrong(t *testing.T) {
	for s, e := range wrong() {
		refuses(t, s+"\n", 0, e)
		refuses(t, s+"\nwake 1\n", 0, e)
		refuses(t, "wake 1\n"+s+"\n", 1, e)
		refuses(t, "wake 1\nmask 2 none\n"+s+"\nwake 3\n", 2, e)
		_, long := ticks(most - 1)
		refuses(t, long+s+"\n", most-1, e)
	}
}

// TestParseFirst holds P19.2 of two lines that are wrong: the first one is told, whatever the second one is.
func TestParseFirst(t *testing.T) {
	forms := []string{"", "wake", "mask 1 64,", "spawn 1 x 64"}
	args := []string{"mask 1 64", "spawn 1 2 3-1"}
	for _, f := range forms {
		for _, a := range args {
			refuses(t, f+"\n"+a+"\n", 0, errForm)
			refuses(t, a+"\n"+f+"\n", 0, errArg)
			refuses(t, "drop 1\n"+a+"\ndrop 2\n"+f+"\n", 1, errArg)
			refuses(t, "drop 1\ndrop 2\n"+f+"\n"+a, 2, errForm)
			refuses(t, "drop 1\n"+a+"\n"+f, 1, errArg)
		}
	}
}

// TestParseEnd holds P19.2 of a last line without a byte 10: it is wrong if it has bytes, whatever they are.
func TestParseEnd(t *testing.T) {
	tails := []string{" ", "x", "w", "wake 1", "mask 1 64", "mask 1 none", "spawn 1 x 64", "\r", "\x00", "\xff", "é"}
	for _, p := range pairs() {
		tails = append(tails, strings.TrimSuffix(p.text, "\n"))
	}
	for _, tail := range tails {
		refuses(t, tail, 0, errForm)
		refuses(t, "wake 1\n"+tail, 1, errForm)
		refuses(t, "wake 1\nblock 0\n"+tail, 2, errForm)
		_, long := ticks(most - 1)
		refuses(t, long+tail, most-1, errForm)
	}
}

// TestParseMost holds P19.2 of as many lines as there may be, and of more, which are told ahead of any wrong one.
func TestParseMost(t *testing.T) {
	for _, n := range []int{most - 1, most} {
		l, s := ticks(n)
		parses(t, s, l)
		refuses(t, strings.Repeat("\n", n), 0, errForm)
		refuses(t, s[:len(s)-1], n-1, errForm)
	}
	for _, n := range []int{most + 1, most + 2, 2 * most, 20 * most} {
		_, s := ticks(n)
		refuses(t, s, 0, errFull)
		refuses(t, "\n"+s, 0, errFull)
		refuses(t, "mask 1 64\n"+s, 0, errFull)
		refuses(t, s+"x\n", 0, errFull)
		refuses(t, s+"x", 0, errFull)
		refuses(t, strings.Repeat("\n", n), 0, errFull)
	}
}

// TestParseMostEnd holds P19.2 of a last line without a byte 10 behind as many lines as there may be: with it there are too many.
func TestParseMostEnd(t *testing.T) {
	_, s := ticks(most)
	for _, tail := range []string{"x", " ", "wake 1", "mask 1 64"} {
		refuses(t, s+tail, 0, errFull)
		refuses(t, strings.Repeat("\n", most)+tail, 0, errFull)
	}
}

// TestParseMask holds P19.2 of masks that aren't as they are written: any text that chapter 9 takes will do, but the empty one.
func TestParseMask(t *testing.T) {
	for s, m := range map[string]uint64{
		"3,1":                            0b1010,
		"1,1":                            0b10,
		"5-5":                            0b100000,
		"0,1,2,3":                        0b1111,
		"0-2,1-3":                        0b1111,
		"2-3,0-1":                        0b1111,
		"63,0":                           1<<63 | 1,
		"0-63,5":                         every,
		"0-31,32-63":                     every,
		"none":                           0,
		strings.Repeat("7,", 5000) + "7": 1 << 7,
	} {
		parses(t, "mask 2 "+s+"\n", []api.Event{{Kind: 15, A: 2, Mask: m}})
		parses(t, "spawn 2 -7 "+s+"\nwake 1\n", []api.Event{{Kind: 6, A: 2, N: -7, Mask: m}, {Kind: 7, A: 1}})
	}
}

// TestParseLong holds P19.2, and P1, of lines that are long.
func TestParseLong(t *testing.T) {
	const n = 1 << 20
	for _, s := range []string{" ", "0", "9", "-", "w", "wake", "wake ", "\x00", "\xff", "64,", "none"} {
		long := strings.Repeat(s, n)
		refuses(t, long, 0, errForm)
		refuses(t, long+"\n", 0, errForm)
		refuses(t, "wake "+long+"\n", 0, errForm)
		refuses(t, "tick 1 -"+long+"\n", 0, errForm)
		refuses(t, "mask 1 "+long+"\n", 0, errForm)
		refuses(t, "wake 1\n"+long+" 1\n", 1, errForm)
	}
	refuses(t, "mask 1 "+strings.Repeat("64,", n)+"1\n", 0, errArg)
}

// TestParseShares holds R3: what is told is the caller's own, and no answer hangs on an earlier one.
func TestParseShares(t *testing.T) {
	for _, p := range pairs() {
		first, _, _ := event.Parse(p.text + p.text)
		second, _, _ := event.Parse(p.text + p.text)
		for i := range first {
			first[i] = api.Event{Kind: 99}
		}
		_ = append(first[:1], api.Event{Kind: 98})
		if !slices.Equal(second, []api.Event{p.e, p.e}) {
			t.Errorf("Parse(%q): %v, behind a change of another answer", p.text, second)
		}
		refuses(t, "x\n", 0, errForm)
		parses(t, p.text+p.text, []api.Event{p.e, p.e})
	}
}
