package datum_test

import (
	"fmt"
	"math"
	"math/big"
	"math/rand"
	"slices"
	"strings"
	"testing"

	"treadle/api"
	"treadle/datum"
)

func num(n int64) api.Value   { return api.Value{Kind: api.KindInt, Int: n} }
func text(s string) api.Value { return api.Value{Kind: api.KindText, Text: s} }

var nothing = api.Value{}

// long is a text of n bytes.
func long(n int) string { return strings.Repeat("x", n) }

// told is a value in words; of a long text its length.
func told(v api.Value) string {
	if len(v.Text) > 40 {
		return fmt.Sprintf("{%d %d, %d bytes}", v.Kind, v.Int, len(v.Text))
	}
	return fmt.Sprintf("{%d %d %q}", v.Kind, v.Int, v.Text)
}

// kinds is every kind, and numbers that are none, among them such whose lowest byte is a kind.
func kinds() []int {
	return []int{api.KindNone, api.KindInt, api.KindText, 3, 4, 127, 128, 255, 256, 257, 258, 1 << 32, 1<<32 + 1, math.MaxInt, -1, -2, -254, -255, -256, math.MinInt, math.MinInt + 1, math.MinInt + 2}
}

// integers is both ends of the range, what stands next to them and to their halves and roots, and those about 0.
func integers() []int64 {
	out := []int64{0, 1, -1, 2, -2, 3, -3, 7, 10, -10, 63, 64, -64, -65, 100, math.MaxInt64, math.MaxInt64 - 1, math.MinInt64, math.MinInt64 + 1, math.MinInt64 + 2}
	for _, i := range []int{8, 31, 32, 33, 61, 62} {
		for _, n := range []int64{1<<i - 1, 1 << i, 1<<i + 1} {
			out = append(out, n, -n)
		}
	}
	// The greatest number whose square is within, and the next one; the thirds of both ends.
	out = append(out, 3037000499, -3037000499, 3037000500, -3037000500, math.MaxInt64/3, math.MaxInt64/3+1, math.MinInt64/3, math.MinInt64/3-1, math.MaxInt64/7, math.MaxInt64/7+1)
	slices.Sort(out)
	return slices.Compact(out)
}

// texts begin one another, have any bytes, and have lengths about the limits.
func texts() []string {
	out := []string{"", "\x00", "\x00\x00", "\x00a", "a", "a\x00", "aa", "ab", "abc", "b", "ba", "7", "-7", "07", "A", "\x7f", "\x80", "\x80a", "\xff", "\xff\xff", "\xc3\x28", "ä", "\xfe\x00"}
	for _, n := range []int{63, 64, 65, 127, 128, 255, 256} {
		out = append(out, long(n))
	}
	return append(out, long(255)+"y", "\xff"+long(255), strings.Repeat("\x80", 256))
}

// values is values of all kinds.
func values() []api.Value {
	out := []api.Value{nothing}
	for _, n := range integers() {
		out = append(out, num(n))
	}
	for _, s := range texts() {
		out = append(out, text(s))
	}
	return out
}

// others is what is no value: no kinds, fields that a kind does not have, texts above the limit.
func others() []api.Value {
	var out []api.Value
	for _, k := range kinds() {
		for _, n := range []int64{0, 1, -1, math.MaxInt64, math.MinInt64} {
			for _, s := range []string{"", "\x00", "x", long(256), long(257), long(5000)} {
				if v := (api.Value{Kind: k, Int: n, Text: s}); slowCheck(v) != api.OK {
					out = append(out, v)
				}
			}
		}
	}
	return out
}

// few is some values and some that are none: as many as can be gone through in threes.
func few() []api.Value {
	return []api.Value{
		nothing, num(0), num(1), num(-1), num(7), num(math.MaxInt64), num(math.MinInt64), num(math.MinInt64 + 1),
		text(""), text("\x00"), text("a"), text("a\x00"), text("ab"), text("b"), text("7"), text("\x7f"), text("\x80"), text("\xff"), text(long(256)), text(long(255)),
		{Int: 5}, {Text: "x"}, {Kind: api.KindInt, Int: 1, Text: "x"}, {Kind: api.KindInt, Text: "x"}, {Kind: api.KindText, Int: 9}, {Kind: api.KindText, Int: -9, Text: "a"}, text(long(257)),
		{Kind: 3}, {Kind: 3, Int: 4, Text: "z"}, {Kind: 4}, {Kind: -1}, {Kind: -1, Int: 7}, {Kind: math.MaxInt}, {Kind: math.MinInt}, {Kind: 257, Int: 1},
	}
}

// slowCheck is Check as the chapter says it.
func slowCheck(v api.Value) api.Errno {
	isInt, isText := v.Kind == 1, v.Kind == 2
	if v.Kind != 0 && !isInt && !isText {
		return api.ErrKind
	}
	if v.Int != 0 && !isInt || v.Text != "" && !isText {
		return api.ErrKind
	}
	if len(v.Text) > 256 {
		return api.ErrLong
	}
	return api.OK
}

// P5.1: the chapter's own.
func TestCheckKnown(t *testing.T) {
	for _, c := range []struct {
		v    api.Value
		want api.Errno
	}{
		{api.Value{Kind: api.KindInt, Int: 5, Text: "x"}, api.ErrKind},
		{api.Value{Kind: 3}, api.ErrKind},
		{text(long(256)), api.OK},
		{text(long(257)), api.ErrLong},
		{nothing, api.OK},
		{text(""), api.OK},
		{num(0), api.OK},
		{num(math.MinInt64), api.OK},
		// Both could be told: the kind comes first.
		{api.Value{Kind: api.KindText, Int: 1, Text: long(257)}, api.ErrKind},
		{api.Value{Kind: api.KindInt, Text: long(257)}, api.ErrKind},
		{api.Value{Text: long(257)}, api.ErrKind},
		{api.Value{Kind: 3, Text: long(257)}, api.ErrKind},
		{api.Value{Kind: -1, Int: 1, Text: long(257)}, api.ErrKind},
	} {
		if e := datum.Check(c.v); e != c.want {
			t.Errorf("P5.1: %s: %v, not %v", told(c.v), e, c.want)
		}
	}
}

// P5.1: every kind and none, each field set and unset.
func TestCheckAll(t *testing.T) {
	for _, k := range kinds() {
		for _, n := range integers() {
			for _, s := range append(texts(), long(257), long(512), strings.Repeat("\x00", 257), long(1<<16)) {
				v := api.Value{Kind: k, Int: n, Text: s}
				if e := datum.Check(v); e != slowCheck(v) {
					t.Errorf("P5.1: %s: %v, not %v", told(v), e, slowCheck(v))
				}
			}
		}
	}
	// Every length about which something changes, if one limit is taken for another.
	for n := range 1100 {
		if e := datum.Check(text(long(n))); (e == api.OK) != (n <= api.MaxText) {
			t.Errorf("P5.1: a text of %d bytes: %v", n, e)
		}
	}
	if e := datum.Check(text(long(1 << 24))); e != api.ErrLong {
		t.Errorf("P5.1: a text of 2^24 bytes: %v", e)
	}
}

// order is -1, 0 or 1, as a is below b, is b, or is above it.
func order(a, b int64) int { return big.NewInt(a).Cmp(big.NewInt(b)) }

// slowCompare is Compare as the chapter says it.
func slowCompare(a, b api.Value) int {
	if a.Kind != b.Kind {
		return order(int64(a.Kind), int64(b.Kind))
	}
	switch a.Kind {
	case 1:
		return order(a.Int, b.Int)
	case 2:
		for i := range min(len(a.Text), len(b.Text)) {
			if a.Text[i] != b.Text[i] {
				return order(int64(a.Text[i]), int64(b.Text[i]))
			}
		}
		return order(int64(len(a.Text)), int64(len(b.Text)))
	}
	return 0
}

// P5.2: the chapter's own.
func TestCompareKnown(t *testing.T) {
	for _, c := range []struct {
		a, b api.Value
		want int
	}{
		{nothing, num(-5), -1},
		{num(7), text("7"), -1},
		{text("a"), text("ab"), -1},
		{text("b"), text("ab"), 1},
		{num(-1), num(1), -1},
		{nothing, nothing, 0},
		{num(math.MaxInt64), num(math.MinInt64), 1},
		{num(math.MinInt64), num(1), -1},
		{num(100), num(-100), 1},
		{text("\x7f"), text("\x80"), -1},
		{text(""), text("\x00"), -1},
		{text("z"), text("ab"), 1},
		{text("a"), text("z"), -1},
		{text(long(300)), text(long(299)), 1},
		// Fields that a kind does not have.
		{api.Value{Int: 9, Text: "z"}, nothing, 0},
		{api.Value{Kind: api.KindInt, Int: 1, Text: "z"}, num(1), 0},
		{api.Value{Kind: api.KindText, Int: 8, Text: "a"}, text("a"), 0},
		// No kinds.
		{api.Value{Kind: 3, Int: 1, Text: "a"}, api.Value{Kind: 3, Int: 2, Text: "b"}, 0},
		{api.Value{Kind: -1, Int: 1}, api.Value{Kind: -1}, 0},
		{api.Value{Kind: -1, Text: "z"}, nothing, -1},
		{api.Value{Kind: 3}, text("z"), 1},
		{api.Value{Kind: math.MinInt}, api.Value{Kind: math.MaxInt}, -1},
	} {
		if got := datum.Compare(c.a, c.b); got != c.want {
			t.Errorf("P5.2: %s and %s: %d, not %d", told(c.a), told(c.b), got, c.want)
		}
		if got := datum.Compare(c.b, c.a); got != -c.want {
			t.Errorf("P5.2: %s and %s: %d, not %d", told(c.b), told(c.a), got, -c.want)
		}
	}
}

// P5.2, P5.3: every pair, and each comparison and numbers that are none.
func TestEveryPair(t *testing.T) {
	all := slices.Concat(values(), few(), others())
	all = slices.CompactFunc(all, func(a, b api.Value) bool { return a == b })
	for _, a := range all {
		for _, b := range all {
			want := slowCompare(a, b)
			if got := datum.Compare(a, b); got != want {
				t.Fatalf("P5.2: %s and %s: %d, not %d", told(a), told(b), got, want)
			}
		}
	}
	for _, a := range few() {
		for _, b := range few() {
			for _, how := range hows() {
				if got, want := datum.Holds(how, a, b), slowHolds(how, slowCompare(a, b)); got != want {
					t.Errorf("P5.3: %d of %s and %s: %v", how, told(a), told(b), got)
				}
			}
		}
	}
}

// hows is each comparison, and numbers that are none.
func hows() []int {
	return []int{api.CompareEqual, api.CompareUnlike, api.CompareLess, api.CompareMost, api.CompareGreater, api.CompareLeast, 0, 7, 8, 9, 255, 256, 257, 262, 1<<32 + 1, -1, -2, -3, -6, -7, -255, math.MaxInt, math.MinInt, math.MinInt + 1}
}

// slowHolds is Holds as the chapter says it, of what Compare says.
func slowHolds(how, compared int) bool {
	met := map[int][]int{1: {0}, 2: {-1, 1}, 3: {-1}, 4: {-1, 0}, 5: {1}, 6: {0, 1}}
	return slices.Contains(met[how], compared)
}

// P5.3: the chapter's own, and each comparison by hand.
func TestHoldsKnown(t *testing.T) {
	if !datum.Holds(api.CompareMost, num(3), num(3)) || !datum.Holds(api.CompareGreater, text("a"), num(9)) || datum.Holds(7, num(1), num(1)) {
		t.Error("P5.3: the chapter's own")
	}
	pairs := [][2]api.Value{{num(1), num(2)}, {num(2), num(2)}, {num(3), num(2)}}
	for how, want := range map[int][3]bool{
		api.CompareEqual:   {false, true, false},
		api.CompareUnlike:  {true, false, true},
		api.CompareLess:    {true, false, false},
		api.CompareMost:    {true, true, false},
		api.CompareGreater: {false, false, true},
		api.CompareLeast:   {false, true, true},
		0:                  {},
		7:                  {},
		-1:                 {},
	} {
		for i, p := range pairs {
			if got := datum.Holds(how, p[0], p[1]); got != want[i] {
				t.Errorf("P5.3: %d of %s and %s: %v", how, told(p[0]), told(p[1]), got)
			}
		}
	}
}

// two is a call of two values.
type two struct {
	name string
	call func(a, b api.Value) (api.Value, api.Errno)
	slow func(z, a, b *big.Int) *big.Int
}

// reckonings is Add, Sub and Mul, and what they are of great numbers.
func reckonings() []two {
	return []two{{"Add", datum.Add, (*big.Int).Add}, {"Sub", datum.Sub, (*big.Int).Sub}, {"Mul", datum.Mul, (*big.Int).Mul}}
}

// holds asks a call of two, and holds its answer against what is wanted.
func (c two) holds(t *testing.T, promise string, a, b, want api.Value, err api.Errno) {
	t.Helper()
	if got, e := c.call(a, b); got != want || e != err {
		t.Errorf("%s: %s(%s, %s): %s, %v, not %s, %v", promise, c.name, told(a), told(b), told(got), e, told(want), err)
	}
}

// reckoned holds a call of two integers against what great numbers say.
func (c two) reckoned(t *testing.T, a, b int64) {
	t.Helper()
	z := c.slow(new(big.Int), big.NewInt(a), big.NewInt(b))
	if z.IsInt64() {
		c.holds(t, "P5.4", num(a), num(b), num(z.Int64()), api.OK)
	} else {
		c.holds(t, "P5.4", num(a), num(b), nothing, api.ErrRange)
	}
}

// P5.4: the chapter's own.
func TestReckonKnown(t *testing.T) {
	const m = math.MaxInt64
	add, sub, mul := reckonings()[0], reckonings()[1], reckonings()[2]
	add.holds(t, "P5.4", num(m), num(1), nothing, api.ErrRange)
	add.holds(t, "P5.4", num(m), num(-1), num(m-1), api.OK)
	sub.holds(t, "P5.4", num(-m-1), num(1), nothing, api.ErrRange)
	mul.holds(t, "P5.4", num(-m-1), num(-1), nothing, api.ErrRange)
	mul.holds(t, "P5.4", num(m), num(0), num(0), api.OK)
	add.holds(t, "P5.4", num(1), text("1"), nothing, api.ErrKind)
	add.holds(t, "P5.4", nothing, num(1), nothing, api.ErrKind)
	sub.holds(t, "P5.4", num(3), num(5), num(-2), api.OK)
	mul.holds(t, "P5.4", num(-3), num(5), num(-15), api.OK)
	mul.holds(t, "P5.4", num(-m-1), num(1), num(-m-1), api.OK)
	mul.holds(t, "P5.4", num(m), num(-1), num(-m), api.OK)
	sub.holds(t, "P5.4", num(-1), num(-m-1), num(m), api.OK)
	sub.holds(t, "P5.4", num(0), num(-m-1), nothing, api.ErrRange)
}

// P5.4: both ends of the range and about them, with all others, on either side.
func TestReckonEnds(t *testing.T) {
	for _, c := range reckonings() {
		for _, a := range integers() {
			for _, b := range integers() {
				c.reckoned(t, a, b)
			}
		}
		for i := range int64(130) {
			for j := range int64(130) {
				c.reckoned(t, i-65, j-65)
				c.reckoned(t, math.MaxInt64-i, j-65)
				c.reckoned(t, math.MinInt64+i, j-65)
				c.reckoned(t, j-65, math.MaxInt64-i)
				c.reckoned(t, j-65, math.MinInt64+i)
			}
		}
	}
}

// P5.4: numbers of any size, and products just within and just outside.
func TestReckonRandom(t *testing.T) {
	r := rand.New(rand.NewSource(5))
	for range 20000 {
		a, b := int64(r.Uint64())>>r.Intn(64), int64(r.Uint64())>>r.Intn(64)
		for _, c := range reckonings() {
			c.reckoned(t, a, b)
		}
		if a == 0 {
			continue
		}
		for d := int64(-1); d <= 1; d++ {
			for _, end := range []int64{math.MaxInt64, math.MinInt64 + 1} {
				reckonings()[2].reckoned(t, a, end/a+d)
				reckonings()[2].reckoned(t, end/a+d, a)
			}
		}
	}
}

// P5.4: what is no integer, on either side and on both, ahead of a range that is left.
func TestReckonKind(t *testing.T) {
	wrong := slices.Concat(others(), []api.Value{nothing})
	for _, s := range texts() {
		wrong = append(wrong, text(s))
	}
	for _, c := range reckonings() {
		for _, v := range wrong {
			for _, n := range []int64{0, 1, -1, math.MaxInt64, math.MinInt64} {
				c.holds(t, "P5.4", v, num(n), nothing, api.ErrKind)
				c.holds(t, "P5.4", num(n), v, nothing, api.ErrKind)
			}
			c.holds(t, "P5.4", v, v, nothing, api.ErrKind)
			c.holds(t, "P5.4", v, nothing, nothing, api.ErrKind)
		}
		// As integers alone these would be out of range.
		bad := api.Value{Kind: api.KindInt, Int: math.MaxInt64, Text: "x"}
		c.holds(t, "P5.4", bad, num(math.MinInt64), nothing, api.ErrKind)
		c.holds(t, "P5.4", num(math.MinInt64), bad, nothing, api.ErrKind)
	}
}

// joining is Join.
func joining() two { return two{name: "Join", call: datum.Join} }

// slowText is what a value is in a join.
func slowText(v api.Value) string {
	if v.Kind == 1 {
		return big.NewInt(v.Int).String()
	}
	return v.Text
}

// joined holds Join against the chapter's words.
func joined(t *testing.T, a, b api.Value) {
	t.Helper()
	for _, v := range []api.Value{a, b} {
		if slowCheck(v) != api.OK || v.Kind == 0 {
			joining().holds(t, "P5.5", a, b, nothing, api.ErrKind)
			return
		}
	}
	if s := slowText(a) + slowText(b); len(s) <= 256 {
		joining().holds(t, "P5.5", a, b, text(s), api.OK)
	} else {
		joining().holds(t, "P5.5", a, b, nothing, api.ErrLong)
	}
}

// P5.5: the chapter's own, and integers at both ends.
func TestJoinKnown(t *testing.T) {
	j := joining()
	j.holds(t, "P5.5", text("keel"), num(7), text("keel7"), api.OK)
	j.holds(t, "P5.5", num(-40), num(2), text("-402"), api.OK)
	j.holds(t, "P5.5", text(""), text(""), text(""), api.OK)
	j.holds(t, "P5.5", nothing, text("a"), nothing, api.ErrKind)
	j.holds(t, "P5.5", text(long(256)), text("a"), nothing, api.ErrLong)
	j.holds(t, "P5.5", num(0), num(0), text("00"), api.OK)
	j.holds(t, "P5.5", text(""), num(-1), text("-1"), api.OK)
	j.holds(t, "P5.5", num(1), num(-1), text("1-1"), api.OK)
	j.holds(t, "P5.5", num(math.MinInt64), num(math.MaxInt64), text("-92233720368547758089223372036854775807"), api.OK)
	j.holds(t, "P5.5", text("b"), text("a"), text("ba"), api.OK)
	j.holds(t, "P5.5", text("a\x00"), text("\xff"), text("a\x00\xff"), api.OK)
}

// P5.5: every pair of values and of what is none.
func TestJoinPairs(t *testing.T) {
	all := slices.Concat(values(), few())
	for _, a := range all {
		for _, b := range all {
			joined(t, a, b)
		}
	}
	for _, v := range others() {
		for _, w := range few() {
			joined(t, v, w)
			joined(t, w, v)
		}
	}
}

// P5.5: joins that have just so many bytes as may be, and one more; what is no value ahead of what is too long.
func TestJoinLengths(t *testing.T) {
	j := joining()
	for n := range api.MaxText + 1 {
		j.holds(t, "P5.5", text(long(n)), text(long(api.MaxText-n)), text(long(api.MaxText)), api.OK)
		if n > 0 {
			j.holds(t, "P5.5", text(long(n)), text(long(api.MaxText+1-n)), nothing, api.ErrLong)
		}
	}
	for _, n := range integers() {
		digits := big.NewInt(n).String()
		fits, above := long(api.MaxText-len(digits)), long(api.MaxText+1-len(digits))
		j.holds(t, "P5.5", text(fits), num(n), text(fits+digits), api.OK)
		j.holds(t, "P5.5", num(n), text(fits), text(digits+fits), api.OK)
		j.holds(t, "P5.5", text(above), num(n), nothing, api.ErrLong)
		j.holds(t, "P5.5", num(n), text(above), nothing, api.ErrLong)
	}
	for _, v := range []api.Value{text(""), num(1), nothing, text(long(256)), text(long(257))} {
		j.holds(t, "P5.5", text(long(257)), v, nothing, api.ErrKind)
		j.holds(t, "P5.5", v, text(long(257)), nothing, api.ErrKind)
	}
	j.holds(t, "P5.5", text(long(256)), nothing, nothing, api.ErrKind)
	j.holds(t, "P5.5", text(long(256)), text(long(256)), nothing, api.ErrLong)
}

// key asks Key, and holds its answer against what is wanted.
func key(t *testing.T, v api.Value, want string, err api.Errno) {
	t.Helper()
	if s, e := datum.Key(v); s != want || e != err {
		t.Errorf("P5.6: Key(%s): %q, %v, not %q, %v", told(v), s, e, want, err)
	}
}

// P5.6: the chapter's own, and keys of any length and of any bytes.
func TestKeys(t *testing.T) {
	key(t, text("a"), "a", api.OK)
	key(t, text(""), "", api.ErrName)
	key(t, num(7), "", api.ErrKind)
	key(t, text(long(65)), "", api.ErrName)
	key(t, nothing, "", api.ErrKind)
	for n := range 600 {
		for _, c := range []string{"x", "\x00", "\xff", " "} {
			s := strings.Repeat(c, n)
			is := n >= 1 && n <= api.MaxKey
			if datum.IsKey(s) != is {
				t.Errorf("P5.6: IsKey of %d bytes: %v", n, !is)
			}
			switch {
			case is:
				key(t, text(s), s, api.OK)
			case n <= api.MaxText:
				key(t, text(s), "", api.ErrName)
			default: // no value, and so not one of KindText
				key(t, text(s), "", api.ErrKind)
			}
		}
	}
	if datum.IsKey(long(1<<24)) || datum.IsKey(long(1<<8+1)) {
		t.Error("P5.6: IsKey of a long text")
	}
	// Bytes are counted, not letters.
	if datum.IsKey(strings.Repeat("ä", 33)) || !datum.IsKey(strings.Repeat("ä", 32)) {
		t.Error("P5.6: IsKey counts letters")
	}
}

// P5.6: what is no value of KindText, also where its Text would be a key, or none.
func TestKeyKind(t *testing.T) {
	for _, v := range others() {
		key(t, v, "", api.ErrKind)
	}
	for _, n := range integers() {
		key(t, num(n), "", api.ErrKind)
	}
	key(t, api.Value{Kind: api.KindText, Int: 1, Text: "a"}, "", api.ErrKind)
	key(t, api.Value{Kind: api.KindText, Int: 1}, "", api.ErrKind)
	key(t, api.Value{Kind: api.KindInt, Text: "a"}, "", api.ErrKind)
	key(t, api.Value{Text: "a"}, "", api.ErrKind)
}

// P5.8: what is ahead of what is ahead is ahead; three of all in all orders, of values and of what is none.
func TestOrderOfThree(t *testing.T) {
	all := few()
	for _, a := range all {
		for _, b := range all {
			for _, c := range all {
				ab, bc, ac := datum.Compare(a, b), datum.Compare(b, c), datum.Compare(a, c)
				if ab == bc && ac != ab || ab == 0 && ac != bc || bc == 0 && ac != ab {
					t.Errorf("P5.8: %s, %s, %s: %d, %d, %d", told(a), told(b), told(c), ab, bc, ac)
				}
			}
		}
	}
}

// P5.8: of two unlike values one is ahead, of two that are alike neither; sorted they stand as the words say.
func TestOrderOfValues(t *testing.T) {
	all := values()
	for i, a := range all {
		for j, b := range all {
			ab, ba := datum.Compare(a, b), datum.Compare(b, a)
			if ab != -ba || (ab == 0) != (i == j) || ab < -1 || ab > 1 {
				t.Errorf("P5.8: %s and %s: %d, %d", told(a), told(b), ab, ba)
			}
		}
	}
	want := slices.SortedFunc(slices.Values(all), slowCompare)
	r := rand.New(rand.NewSource(8))
	for range 20 {
		r.Shuffle(len(all), func(i, j int) { all[i], all[j] = all[j], all[i] })
		slices.SortFunc(all, datum.Compare)
		if !slices.Equal(all, want) {
			t.Error("P5.8: sorted, they stand otherwise")
		}
	}
}

// P5.8: of less, equal and greater exactly one holds, and the three others are the three without them.
func TestOneHolds(t *testing.T) {
	for _, a := range few() {
		for _, b := range few() {
			held := 0
			for _, how := range []int{api.CompareLess, api.CompareEqual, api.CompareGreater} {
				if datum.Holds(how, a, b) {
					held++
				}
			}
			if held != 1 {
				t.Errorf("P5.8: %s and %s: %d hold", told(a), told(b), held)
			}
			for one, other := range map[int]int{api.CompareMost: api.CompareGreater, api.CompareLeast: api.CompareLess, api.CompareUnlike: api.CompareEqual} {
				if datum.Holds(one, a, b) == datum.Holds(other, a, b) {
					t.Errorf("P5.8: %s and %s: %d and %d", told(a), told(b), one, other)
				}
			}
		}
	}
}

// P5.9: Add and Mul in any order of the two, their errors too; Sub takes back what Add has added.
func TestAnyOrder(t *testing.T) {
	all := slices.Concat(values(), few())
	for _, a := range all {
		for _, b := range all {
			for _, c := range []two{reckonings()[0], reckonings()[2]} {
				v, e := c.call(a, b)
				c.holds(t, "P5.9", b, a, v, e)
			}
			s, e := datum.Add(a, b)
			if e != api.OK {
				continue
			}
			if back, e := datum.Sub(s, b); e == api.OK && back != a {
				t.Errorf("P5.9: %s and %s: %s", told(a), told(b), told(back))
			}
		}
	}
	// That it is not refused everywhere.
	s, _ := datum.Add(num(math.MaxInt64), num(math.MinInt64))
	reckonings()[1].holds(t, "P5.9", s, num(math.MinInt64), num(math.MaxInt64), api.OK)
}

// P5.9: three texts joined, however they are grouped.
func TestAnyGrouping(t *testing.T) {
	parts := []string{"", "a", "\x00", "\xff\x80", "keel", "7", "-", long(84), long(85), long(86), long(127), long(128), long(255), long(256)}
	for _, a := range parts {
		for _, b := range parts {
			for _, c := range parts {
				ab, e1 := datum.Join(text(a), text(b))
				left, e2 := datum.Join(ab, text(c))
				bc, e3 := datum.Join(text(b), text(c))
				right, e4 := datum.Join(text(a), bc)
				whole := len(a)+len(b)+len(c) <= api.MaxText
				if ok := e1 == api.OK && e2 == api.OK; ok != whole {
					t.Errorf("P5.9: %d, %d, %d bytes: %v, %v", len(a), len(b), len(c), e1, e2)
				}
				if ok := e3 == api.OK && e4 == api.OK; ok != whole {
					t.Errorf("P5.9: %d, %d, %d bytes: %v, %v", len(a), len(b), len(c), e3, e4)
				}
				if whole && (left != right || left != text(a+b+c)) {
					t.Errorf("P5.9: %s, not %s", told(left), told(right))
				}
			}
		}
	}
}

// P5.9: sums of three, however they are ordered and grouped, where nothing is refused.
func TestSumsGrouped(t *testing.T) {
	sum := func(a, b, c int64) (api.Value, bool) {
		ab, e := datum.Add(num(a), num(b))
		if e != api.OK {
			return nothing, false
		}
		all, e := datum.Add(ab, num(c))
		return all, e == api.OK
	}
	for _, a := range integers() {
		for _, b := range integers() {
			for _, c := range []int64{0, 1, -1, 64, math.MaxInt64, math.MinInt64} {
				first, ok1 := sum(a, b, c)
				for _, other := range [][3]int64{{b, c, a}, {c, a, b}, {c, b, a}} {
					if v, ok2 := sum(other[0], other[1], other[2]); ok1 && ok2 && v != first {
						t.Errorf("P5.9: %d, %d, %d: %s, not %s", a, b, c, told(v), told(first))
					}
				}
			}
		}
	}
}
