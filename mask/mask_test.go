package mask_test

import (
	"math"
	"regexp"
	"slices"
	"strconv"
	"strings"
	"testing"

	"dole/api"
	"dole/mask"
)

const full = math.MaxUint64

// set is the set of some numbers, apart from what the program calls.
func set(ps ...int) uint64 {
	var m uint64
	for _, p := range ps {
		m |= 1 << uint(p)
	}
	return m
}

// from is the set of all numbers from a to b.
func from(a, b int) uint64 {
	var m uint64
	for p := a; p <= b; p++ {
		m |= set(p)
	}
	return m
}

// numbers are those in a set, each asked of a division by its power of two.
func numbers(m uint64) []int {
	var out []int
	for p := range 64 {
		if m%2 == 1 {
			out = append(out, p)
		}
		m /= 2
	}
	return out
}

// wantText goes over the numbers one by one, and writes down each row as it ends.
func wantText(m uint64) string {
	var rows []string
	l := numbers(m)
	for i := 0; i < len(l); {
		j := i
		for j+1 < len(l) && l[j+1] == l[j]+1 {
			j++
		}
		row := strconv.Itoa(l[i])
		if j > i {
			row += "-" + strconv.Itoa(l[j])
		}
		rows = append(rows, row)
		i = j + 1
	}
	return strings.Join(rows, ",")
}

var form = regexp.MustCompile(`\A(0|[1-9][0-9]?)(-(0|[1-9][0-9]?))?(,(0|[1-9][0-9]?)(-(0|[1-9][0-9]?))?)*\z`)

// wantParse takes a text apart by what the library has for it.
func wantParse(s string) (uint64, api.Errno) {
	if s == "" {
		return 0, api.OK
	}
	if !form.MatchString(s) {
		return 0, api.ErrForm
	}
	var m uint64
	for _, part := range strings.Split(s, ",") {
		one, two, is := strings.Cut(part, "-")
		if !is {
			two = one
		}
		a, _ := strconv.Atoi(one)
		b, _ := strconv.Atoi(two)
		if a > 63 || b > 63 || b < a {
			return 0, api.ErrArg
		}
		m |= from(a, b)
	}
	return m, api.OK
}

// chance is a row of numbers without a pattern, the same ones each time.
type chance uint64

func newChance() *chance {
	c := chance(88172645463325252)
	return &c
}

func (c *chance) next() uint64 {
	x := uint64(*c)
	x ^= x << 13
	x ^= x >> 7
	x ^= x << 17
	*c = chance(x)
	return x
}

func (c *chance) below(n int) int { return int(c.next() >> 8 % uint64(n)) }

// sets calls f with each row of numbers and all but it, with all sets of twelve numbers at both ends and in between, and with sets without a pattern, thick and thin.
func sets(f func(m uint64)) {
	f(0)
	for a := range 64 {
		for b := a; b < 64; b++ {
			f(from(a, b))
			f(full ^ from(a, b))
		}
	}
	for m := range uint64(1 << 12) {
		for _, by := range []int{0, 5, 26, 52} {
			f(m << by)
			f(full ^ m<<by)
		}
	}
	c := newChance()
	for range 20000 {
		x, y, z := c.next(), c.next(), c.next()
		f(x)
		f(x & y)
		f(x | y)
		f(x & y & z)
		f(x | y | z)
		f(x ^ x<<1)
		f(x | x<<1 | x<<2)
	}
}

// texts calls f with each text of at most six of a few runes, and with longer ones, most of which are well formed.
func texts(f func(s string)) {
	var grow func(s string, left int)
	grow = func(s string, left int) {
		f(s)
		if left == 0 {
			return
		}
		for _, r := range []string{"0", "1", "3", "6", "9", "-", ",", "é"} {
			grow(s+r, left-1)
		}
	}
	grow("", 6)
	c := newChance()
	for range 100000 {
		f(scattered(c))
	}
}

// scattered is a text of parts in any order, now and then with a number that may not be, or with one rune spoilt.
func scattered(c *chance) string {
	var parts []string
	for range 1 + c.below(12) {
		a, b := c.below(64), c.below(64)
		if c.below(40) == 0 {
			a = 60 + c.below(40)
		}
		if b < a && c.below(40) > 0 {
			a, b = b, a
		}
		part := strconv.Itoa(a)
		if c.below(2) == 0 {
			part += "-" + strconv.Itoa(b)
		}
		parts = append(parts, part)
	}
	s := strings.Join(parts, ",")
	if c.below(4) == 0 {
		at := c.below(len(s) + 1)
		odd := []string{"0", "7", "-", ",", "+", " ", "x", "\x00", "é", "\xff"}
		s = s[:at] + odd[c.below(len(odd))] + s[at:]
	}
	return s
}

func parses(t *testing.T, s string, m uint64) {
	t.Helper()
	if got, e := mask.Parse(s); got != m || e != api.OK {
		t.Errorf("Parse(%q): %#x, %d; want %#x", s, got, e, m)
	}
}

func refuses(t *testing.T, s string, want api.Errno) {
	t.Helper()
	if got, e := mask.Parse(s); got != 0 || e != want {
		t.Errorf("Parse(%q): %#x, %d; want 0, %d", s, got, e, want)
	}
}

// TestExample holds the chapter's example, and the document's fourth.
func TestExample(t *testing.T) {
	parses(t, "0-3,7", set(0, 1, 2, 3, 7))
	if s := mask.Text(set(0, 1, 2, 3, 7)); s != "0-3,7" {
		t.Errorf("Text: %q", s)
	}
	if l := mask.List(set(0, 1, 2, 3, 7)); !slices.Equal(l, []int{0, 1, 2, 3, 7}) {
		t.Errorf("List: %v", l)
	}
}

// TestParseNumber holds P9.1 of one number: each of two figures or fewer, and what stands beside them.
func TestParseNumber(t *testing.T) {
	parses(t, "", 0)
	for p := range 100 {
		if p < 64 {
			parses(t, strconv.Itoa(p), set(p))
		} else {
			refuses(t, strconv.Itoa(p), api.ErrArg)
		}
	}
	for p := 100; p < 1200; p++ {
		refuses(t, strconv.Itoa(p), api.ErrForm)
	}
	for p := range 100 {
		refuses(t, "0"+strconv.Itoa(p), api.ErrForm)
		refuses(t, "00"+strconv.Itoa(p), api.ErrForm)
	}
	for _, s := range []string{"18446744073709551616", "18446744073709551617", "4294967296", "4294967297", "640", "631"} {
		refuses(t, s, api.ErrForm)
	}
}

// TestParseRow holds P9.1 of two numbers with a hyphen between: each two of two figures or fewer.
func TestParseRow(t *testing.T) {
	for a := range 100 {
		for b := range 100 {
			s := strconv.Itoa(a) + "-" + strconv.Itoa(b)
			if a <= b && b < 64 {
				parses(t, s, from(a, b))
			} else {
				refuses(t, s, api.ErrArg)
			}
		}
	}
	for _, s := range []string{"1-02", "01-2", "1-100", "100-1", "0-00", "00-0", "1-064", "100-200"} {
		refuses(t, s, api.ErrForm)
	}
}

// TestParseParts holds P9.1 of several parts: their order, and whether they overlap, is the same.
func TestParseParts(t *testing.T) {
	for s, m := range map[string]uint64{
		"0,63":                set(0, 63),
		"63,0":                set(0, 63),
		"5,5,5":               set(5),
		"5-5":                 set(5),
		"5-5,5":               set(5),
		"3,1,2":               set(1, 2, 3),
		"0-10,5-20":           from(0, 20),
		"5-20,0-10":           from(0, 20),
		"0-63,7":              full,
		"7,0-63":              full,
		"0-31,32-63":          full,
		"32-63,0-31":          full,
		"10-12,0,62-63,12-13": set(0, 10, 11, 12, 13, 62, 63),
		"1-2,4,6-7":           set(1, 2, 4, 6, 7),
		"9-10,8-11,7-12":      from(7, 12),
		"10,0":                set(0, 10),
		"0,0-0,0":             set(0),
	} {
		parses(t, s, m)
	}
	parses(t, strings.Repeat("0-63,", 1<<16)+"1", full)
	parses(t, strings.Repeat("1,", 1<<16)+"2-3", set(1, 2, 3))
}

// TestParseForm holds P9.1's ErrForm: what is no such text, with all else that it could be.
func TestParseForm(t *testing.T) {
	for _, s := range []string{
		"-", ",", "--", ",,", "-,", ",-",
		"-1", "1-", "1--2", "-1-2", "1-2-", "1-2-3", "1-2-3-4", "3-2-1", "--1", "1--",
		",1", "1,", "1,,2", ",1-2", "1-2,", ",,1", "1,,",
		"1-,2", "1,-2", "1-2,-", "-,1", "1,-", "1-2,-3", "1-2-,3", "1,2-",
		"+1", "+", "1+", "1,+2", "1-+2", "- 1", "-0", "+0",
		" ", " 1", "1 ", "1 2", "1, 2", "1 ,2", "1 -2", "1- 2", "\t1", "1\n", "\n", "1\r\n", "1\x00", "\x00",
		"x", "1x", "x1", "0x1", "1e1", "1.0", "1_0", "a-b", "1;2", "1/2", "1:2", "1..2", "1,2.", "1.2", "\u20601",
		"\u0663", "1\u0663", "\u06631", "1-\u0663", "\uff11", "\uff11,\uff12", "é", "1é", "\u00b2", "1\u00b2", "\U0001d7cf", "1\u20132", "1\u20142", "1\u22122", "1\uff0c2", "1\u201a2", "\u2010", "\ufffd", "1\ufffd",
		"\xff", "1\xff", "\xff1", "1,\xff", "1-\xff", "\x801", "1\xc3", "\xe2\x80", "\xb1", "\xac", "\xad", "\xed\xa0\x80", "\xc0\xb1",
	} {
		refuses(t, s, api.ErrForm)
	}
}

// TestParseRunes holds P9.1 of each rune, and of each byte alone: but the ten figures none is a number, and none but the comma and the hyphen may stand between two.
func TestParseRunes(t *testing.T) {
	look := func(s string) {
		one, two := s, "1"+s+"2"
		for _, u := range []string{one, two, s + "1", "1" + s} {
			m, e := wantParse(u)
			if got, ge := mask.Parse(u); got != m || ge != e {
				t.Errorf("Parse(%q): %#x, %d; want %#x, %d", u, got, ge, m, e)
			}
		}
	}
	for r := range rune(0x30000) {
		look(string(r))
	}
	for b := range 256 {
		look(string([]byte{byte(b)}))
	}
	look(string(rune(0x10ffff)))
	refuses(t, string(rune(0x10031)), api.ErrForm)
	refuses(t, string(rune(0x131)), api.ErrForm)
}

// TestParseArg holds P9.1's ErrArg, in whatever part the number stands.
func TestParseArg(t *testing.T) {
	for _, s := range []string{
		"64", "65", "70", "99", "0-64", "63-64", "64-64", "64-65", "65-64", "99-99", "0-99", "99-0", "99-1", "64-0",
		"1-0", "3-2", "63-62", "63-0", "10-9", "10-1",
		"64,1", "1,64", "1,64,2", "1,2-1,3", "2-1,3", "3,2-1", "0-63,64", "64,0-63", "3-2,64", "64,64",
	} {
		refuses(t, s, api.ErrArg)
	}
}

// TestParseFormFirst holds that ErrForm goes ahead of ErrArg, wherever each stands (R1).
func TestParseFormFirst(t *testing.T) {
	for _, arg := range []string{"64", "99", "3-2", "0-64", "70-65", "99-0"} {
		for _, bad := range []string{"", "x", "-", "-1", "1-", "1-2-3", "01", "100", " 1", "1 ", "é", "\xff", "00-1", "1-00"} {
			for _, s := range []string{
				arg + "," + bad, bad + "," + arg,
				arg + ",1," + bad, bad + ",1," + arg, "1," + arg + "," + bad, arg + "," + bad + ",1",
			} {
				refuses(t, s, api.ErrForm)
			}
		}
		for _, tail := range []string{"x", "-", ",", " ", "\xff", "é"} {
			refuses(t, arg+tail, api.ErrForm)
			refuses(t, tail+arg, api.ErrForm)
		}
	}
	for _, s := range []string{"640", "64-", "64-1-", "64--1", "3-2-1", "64-100", "100-64", "99-01"} {
		refuses(t, s, api.ErrForm)
	}
}

// TestParseAll holds P9.1 over all short texts of a few runes, and over many longer ones: as the library takes them apart.
func TestParseAll(t *testing.T) {
	seen := map[api.Errno]int{}
	texts(func(s string) {
		m, e := wantParse(s)
		seen[e]++
		if got, ge := mask.Parse(s); got != m || ge != e {
			t.Fatalf("Parse(%q): %#x, %d; want %#x, %d", s, got, ge, m, e)
		}
	})
	for _, e := range []api.Errno{api.OK, api.ErrArg, api.ErrForm} {
		if seen[e] < 1000 {
			t.Errorf("but %d texts that answer %d", seen[e], e)
		}
	}
}

// TestText holds P9.2 at the edges, by hand.
func TestText(t *testing.T) {
	for m, want := range map[uint64]string{
		0:                            "",
		set(0):                       "0",
		set(9):                       "9",
		set(10):                      "10",
		set(63):                      "63",
		set(0, 1):                    "0-1",
		set(9, 10):                   "9-10",
		set(62, 63):                  "62-63",
		set(0, 2):                    "0,2",
		set(0, 63):                   "0,63",
		set(61, 63):                  "61,63",
		set(0, 1, 62, 63):            "0-1,62-63",
		from(0, 9) | from(50, 63):    "0-9,50-63",
		from(0, 62):                  "0-62",
		from(1, 63):                  "1-63",
		from(1, 62):                  "1-62",
		full:                         "0-63",
		full ^ set(31):               "0-30,32-63",
		full ^ set(1):                "0,2-63",
		full ^ set(62):               "0-61,63",
		set(1, 2, 3, 5, 7, 8):        "1-3,5,7-8",
		from(0, 3) | from(8, 11):     "0-3,8-11",
		set(0, 2, 4, 6, 8, 10):       "0,2,4,6,8,10",
		0xAAAAAAAAAAAAAAAA:           "1,3,5,7,9,11,13,15,17,19,21,23,25,27,29,31,33,35,37,39,41,43,45,47,49,51,53,55,57,59,61,63",
		0x5555555555555555:           "0,2,4,6,8,10,12,14,16,18,20,22,24,26,28,30,32,34,36,38,40,42,44,46,48,50,52,54,56,58,60,62",
		0xDB6DB6DB6DB6DB6D &^ set(0): "2-3,5-6,8-9,11-12,14-15,17-18,20-21,23-24,26-27,29-30,32-33,35-36,38-39,41-42,44-45,47-48,50-51,53-54,56-57,59-60,62-63",
	} {
		if s := mask.Text(m); s != want {
			t.Errorf("Text(%#x): %q; want %q", m, s, want)
		}
	}
	for p := range 64 {
		if s := mask.Text(set(p)); s != strconv.Itoa(p) {
			t.Errorf("Text of %d alone: %q", p, s)
		}
	}
}

// TestTextAll holds P9.2 over many sets.
func TestTextAll(t *testing.T) {
	sets(func(m uint64) {
		if s, want := mask.Text(m), wantText(m); s != want {
			t.Fatalf("Text(%#x): %q; want %q", m, s, want)
		}
	})
}

// TestHas holds P9.3's Has: within, and on both sides of, the numbers that a set may have.
func TestHas(t *testing.T) {
	outside := []int{-1, -2, -62, -63, -64, -65, -128, math.MinInt32, math.MinInt64, math.MinInt64 + 1, -1 << 32,
		64, 65, 66, 127, 128, 129, 192, 256, 1 << 16, math.MaxInt32, 1 << 32, 1<<32 + 1, math.MaxInt64 - 63, math.MaxInt64}
	for _, m := range []uint64{0, 4, set(0), set(63), set(0, 63), full, full ^ set(0), full ^ set(63)} {
		in := numbers(m)
		for p := range 64 {
			if got, want := mask.Has(m, p), slices.Contains(in, p); got != want {
				t.Errorf("Has(%#x, %d): %v", m, p, got)
			}
		}
		for _, p := range outside {
			if mask.Has(m, p) {
				t.Errorf("Has(%#x, %d): true", m, p)
			}
		}
	}
}

// TestCountFirst holds P9.3's Count and First at the edges, by hand.
func TestCountFirst(t *testing.T) {
	for _, c := range []struct {
		m            uint64
		count, first int
	}{
		{0, 0, -1}, {1, 1, 0}, {2, 1, 1}, {3, 2, 0}, {set(63), 1, 63}, {set(62, 63), 2, 62}, {full, 64, 0}, {full ^ 1, 63, 1},
		{full ^ set(63), 63, 0}, {set(0, 63), 2, 0}, {set(0, 1, 2, 3, 7), 5, 0}, {set(4, 7), 2, 4}, {from(32, 63), 32, 32}, {from(0, 31), 32, 0},
	} {
		if n := mask.Count(c.m); n != c.count {
			t.Errorf("Count(%#x): %d; want %d", c.m, n, c.count)
		}
		if p := mask.First(c.m); p != c.first {
			t.Errorf("First(%#x): %d; want %d", c.m, p, c.first)
		}
	}
}

// TestOnly holds P9.3's Only: with n below 0, within, and beyond the numbers that a set may have.
func TestOnly(t *testing.T) {
	sevens := set(0, 1, 2, 3, 7)
	for _, c := range []struct {
		m    uint64
		n    int
		want uint64
	}{
		{sevens, math.MinInt64, 0}, {sevens, -64, 0}, {sevens, -1, 0}, {sevens, 0, 0}, {sevens, 1, set(0)}, {sevens, 2, set(0, 1)}, {sevens, 3, set(0, 1, 2)},
		{sevens, 4, from(0, 3)}, {sevens, 7, from(0, 3)}, {sevens, 8, sevens}, {sevens, 63, sevens}, {sevens, 64, sevens}, {sevens, math.MaxInt64, sevens},
		{full, math.MinInt64, 0}, {full, math.MinInt64 + 1, 0}, {full, -1, 0}, {full, 0, 0}, {full, 1, 1}, {full, 32, from(0, 31)}, {full, 62, from(0, 61)}, {full, 63, from(0, 62)}, {full, 64, full},
		{full, 65, full}, {full, 127, full}, {full, 128, full}, {full, 1 << 32, full}, {full, 1<<32 + 1, full}, {full, math.MaxInt64, full},
		{set(63), 62, 0}, {set(63), 63, 0}, {set(63), 64, set(63)}, {set(0), 0, 0}, {set(0), 1, set(0)}, {0, -1, 0}, {0, 0, 0}, {0, 5, 0}, {0, 64, 0}, {0, 100, 0},
	} {
		if got := mask.Only(c.m, c.n); got != c.want {
			t.Errorf("Only(%#x, %d): %#x; want %#x", c.m, c.n, got, c.want)
		}
	}
	for _, m := range []uint64{full, sevens, set(63), 0xAAAAAAAAAAAAAAAA} {
		for n := -70; n <= 200; n++ {
			want := slices.DeleteFunc(numbers(m), func(p int) bool { return p >= n })
			if got := mask.Only(m, n); got != set(want...) {
				t.Errorf("Only(%#x, %d): %#x; want %v", m, n, got, want)
			}
		}
	}
}

// TestList holds P9.3's List at the edges, by hand.
func TestList(t *testing.T) {
	var each []int
	for p := range 64 {
		each = append(each, p)
	}
	for m, want := range map[uint64][]int{
		0:                     {},
		set(0):                {0},
		set(63):               {63},
		set(0, 63):            {0, 63},
		set(7, 3, 2, 1, 0):    {0, 1, 2, 3, 7},
		full:                  each,
		full ^ set(0):         each[1:],
		full ^ set(63):        each[:63],
		set(1, 33, 32, 31, 5): {1, 5, 31, 32, 33},
	} {
		if got := mask.List(m); !slices.Equal(got, want) {
			t.Errorf("List(%#x): %v; want %v", m, got, want)
		}
	}
}

// TestListOwn holds R3: what List tells is the caller's own, and no two lists share anything.
func TestListOwn(t *testing.T) {
	for _, m := range []uint64{0, set(5), set(0, 1, 2, 3, 7), full} {
		one, two := mask.List(m), mask.List(m)
		for i := range one {
			one[i] = -9
		}
		one = append(one, -9)
		clear(one[:cap(one)])
		if !slices.Equal(two, numbers(m)) || !slices.Equal(mask.List(m), numbers(m)) {
			t.Errorf("List(%#x) was changed by another one's caller", m)
		}
	}
}

// TestSets holds P9.3 over many sets.
func TestSets(t *testing.T) {
	sets(func(m uint64) {
		in := numbers(m)
		if n := mask.Count(m); n != len(in) {
			t.Fatalf("Count(%#x): %d; want %d", m, n, len(in))
		}
		first := -1
		if len(in) > 0 {
			first = in[0]
		}
		if p := mask.First(m); p != first {
			t.Fatalf("First(%#x): %d; want %d", m, p, first)
		}
		if l := mask.List(m); !slices.Equal(l, in) {
			t.Fatalf("List(%#x): %v; want %v", m, l, in)
		}
		for i, p := range in {
			if !mask.Has(m, p) {
				t.Fatalf("Has(%#x, %d): false", m, p)
			}
			if i > 0 && p > in[i-1]+1 && mask.Has(m, p-1) {
				t.Fatalf("Has(%#x, %d): true", m, p-1)
			}
			if got := mask.Only(m, p); got != set(in[:i]...) {
				t.Fatalf("Only(%#x, %d): %#x", m, p, got)
			}
		}
	})
}

// TestToldAgain holds P9.4, and P7, of sets: a set's text is parsed as it.
func TestToldAgain(t *testing.T) {
	sets(func(m uint64) {
		s := mask.Text(m)
		if got, e := mask.Parse(s); got != m || e != api.OK {
			t.Fatalf("the text %q of %#x is parsed as %#x, %d", s, m, got, e)
		}
	})
}

// TestNoLonger holds P9.4 of texts: one that is parsed has the text of its set, which is no longer, and is its own text.
func TestNoLonger(t *testing.T) {
	texts(func(s string) {
		m, e := mask.Parse(s)
		if e != api.OK {
			return
		}
		short := mask.Text(m)
		if len(short) > len(s) {
			t.Fatalf("%q is told as %q, which is longer", s, short)
		}
		again, e := mask.Parse(short)
		if again != m || e != api.OK || mask.Text(again) != short {
			t.Fatalf("%q is told as %q, which is parsed as %#x, %d", s, short, again, e)
		}
	})
}

// TestSameAgain holds R4: what was asked ahead, an error among it, changes no answer.
func TestSameAgain(t *testing.T) {
	asked := []string{"0-3,7", "64", "x", "", "1-", "5-", "63", "0-63", "9-1"}
	for _, before := range asked {
		for _, s := range asked {
			m, e := wantParse(s)
			mask.Parse(before)
			mask.Text(full)
			if got, ge := mask.Parse(s); got != m || ge != e {
				t.Errorf("Parse(%q) behind Parse(%q): %#x, %d; want %#x, %d", s, before, got, ge, m, e)
			}
		}
	}
}
