package spelling_test

import (
	"math"
	"slices"
	"strconv"
	"strings"
	"testing"
	"unsafe"

	"treadle/api"
	"treadle/spelling"
)

// all is the words of a line, and whether it has nothing else.
func all(line string) (words []string, ok bool) {
	for rest := line; ; {
		word, behind, ok := spelling.Next(rest)
		if !ok || word == "" {
			return words, ok
		}
		if len(behind) >= len(rest) {
			panic("no end")
		}
		words, rest = append(words, word), behind
	}
}

// P7.1, P19.1: the words of lines, with blanks, tabs, remarks and texts in quotes.
func TestWords(t *testing.T) {
	for line, want := range map[string][]string{
		"": nil, " ": nil, "\t \t": nil, "#": nil, " # a": nil, "\t#a#b": nil,
		"a": {"a"}, " a ": {"a"}, "a b": {"a", "b"}, "\ta \t b\t": {"a", "b"}, "a#b": {"a"}, "a #b c": {"a"}, "ab c#": {"ab", "c"},
		`"a b" c`: {`"a b"`, "c"}, `"#"#"`: {`"#"`}, `a "\"" b`: {"a", `"\""`, "b"}, `"\\"`: {`"\\"`}, "\"\"\t\"\"": {`""`, `""`}, `"a"#b`: {`"a"`}, `# "`: nil, `a # "`: {"a"},
		`a"b c`: {`a"b`, "c"}, `a" b`: {`a"`, "b"}, "a\rb\x00": {"a\rb\x00"}, "\xff é": {"\xff", "é"}, `'a b'`: {"'a", "b'"}, "a\vb\fc": {"a\vb\fc"},
	} {
		if got, ok := all(line); !ok || !slices.Equal(got, want) {
			t.Errorf("the words of %q: %q, %v, not %q", line, got, ok, want)
		}
	}
	for line, ahead := range map[string][]string{`"`: nil, `"a`: nil, `"a"b`: nil, `""""`: nil, `a "`: {"a"}, `a "b" "c`: {"a", `"b"`}, `"\x0`: nil, `"\x0A"`: nil, "\"\t\"": nil, `"é"`: nil, `"a\`: nil, `a b "c"d e`: {"a", "b"}} {
		if got, ok := all(line); ok || !slices.Equal(got, ahead) {
			t.Errorf("the words of %q: %q, %v, not %q and no more", line, got, ok, ahead)
		}
		if word, behind, ok := spelling.Next(strings.TrimPrefix(line, strings.Join(ahead, " "))); word != "" || behind != "" || ok {
			t.Errorf("beside a false nothing stands: %q: %q, %q, %v", line, word, behind, ok)
		}
	}
}

// P7.1, P19.1: integers, at both ends and beyond.
func TestInts(t *testing.T) {
	for _, n := range []int64{0, 1, -1, 9, 10, -10, 999999999, 1 << 40, math.MaxInt64, math.MinInt64, math.MaxInt64 - 1, math.MinInt64 + 1} {
		if got, ok := spelling.Int(strconv.FormatInt(n, 10)); got != n || !ok {
			t.Errorf("%d: %d, %v", n, got, ok)
		}
	}
	for _, word := range []string{"", "-", "-0", "00", "01", "-01", "+1", "1.", "1e3", "0x1", "1_0", " 1", "1 ", "--1", "-+1", "1-", "9223372036854775808", "-9223372036854775809", "99999999999999999999999", "none", "r0", "١", "\"1\"", "1\x00", "1\xff"} {
		if got, ok := spelling.Int(word); got != 0 || ok {
			t.Errorf("%q: %d, %v", word, got, ok)
		}
		if v, ok := spelling.Value(word); ok && v.Kind == api.KindInt || !ok && v != (api.Value{}) {
			t.Errorf("%q: %v, %v", word, v, ok)
		}
	}
	for word, want := range map[string]bool{"0": true, "10": true, "123456789012345678901234567890": true, "": false, "00": false, "-1": false, "1a": false} {
		if got := spelling.Digits(word); got != want {
			t.Errorf("%q: %v", word, got)
		}
	}
}

// P7.2, P19.2: each byte within quotes, there and back; texts of any length.
func TestQuotes(t *testing.T) {
	var any []byte
	for c := range 256 {
		s := string([]byte{byte(c)})
		any = append(any, byte(c))
		want := s
		switch {
		case c == '"' || c == '\\':
			want = `\` + s
		case c < 32 || c > 126:
			want = `\x` + strconv.FormatInt(int64(c)+256, 16)[1:]
		}
		if got := spelling.Quote(s); got != `"`+want+`"` {
			t.Errorf("%q: %s", s, got)
		}
	}
	for _, s := range []string{"", "a b # c", string(any), strings.Repeat("x", 257), strings.Repeat(string(any), 300)} {
		q := spelling.Quote(s)
		if got, ok := spelling.Text(q); got != s || !ok {
			t.Errorf("%.60q comes back as %.60q, %v", s, got, ok)
		}
		if v, ok := spelling.Value(q); !ok || v != (api.Value{Kind: api.KindText, Text: s}) || spelling.OfValue(v) != q {
			t.Errorf("the value %.60q comes back as %.60v, %v", s, v, ok)
		}
	}
	for _, word := range []string{"", "a", "none", "1", `"`, `"a`, `a"`, `"a"b`, `"a" `, ` "a"`, `""""`, `"\"`, `"\x4"`, `"\xg0"`, `"\n"`, "\"\n\"", "\"\x7f\"", "'a'"} {
		if got, ok := spelling.Text(word); got != "" || ok {
			t.Errorf("%q: %q, %v", word, got, ok)
		}
	}
}

// P7.1, P7.2: nothing, and what is no value's word.
func TestNone(t *testing.T) {
	if v, ok := spelling.Value("none"); v != (api.Value{}) || !ok || spelling.OfValue(v) != "none" {
		t.Error(v, ok)
	}
	for _, word := range []string{"None", "nothing", "nil", "", "r1", "a", "=", "\"", "none "} {
		if v, ok := spelling.Value(word); v != (api.Value{}) || ok {
			t.Errorf("%q: %v, %v", word, v, ok)
		}
	}
}

// W6: a text that was taken shares no memory with the word.
func TestTextApart(t *testing.T) {
	row := []byte(`"several bytes"`)
	got, _ := spelling.Text(unsafe.String(&row[0], len(row)))
	for i := range row {
		row[i] = '!'
	}
	if got != "several bytes" {
		t.Error(got)
	}
}
