package seglog_test

import (
	"math"
	"strings"
	"testing"

	"treadle/api"
	"treadle/seglog"
)

// named asks Name, and First of what it says.
func named(t *testing.T, first int, want string) {
	t.Helper()
	if got := seglog.Name(first); got != want || got != slowName(first) {
		t.Errorf("P13.1: Name(%d): %q, not %q", first, got, want)
	}
	if want == "" {
		return
	}
	if n, ok := seglog.First(want); n != first || !ok {
		t.Errorf("P13.1: First(%q): %d, %v, not %d, true", want, n, ok, first)
	}
}

// P13.1: numbers and their names, the chapter's among them; numbers that have none.
func TestNameKnown(t *testing.T) {
	for first, want := range map[int]string{
		1: "log-000000000001", 9: "log-000000000009", 10: "log-00000000000a", 15: "log-00000000000f", 16: "log-000000000010",
		255: "log-0000000000ff", 256: "log-000000000100", 0x123456789abc: "log-123456789abc", 0xdef012345678: "log-def012345678",
		api.MaxNumber - 1: "log-fffffffffffe", api.MaxNumber: "log-ffffffffffff",
		0: "", -1: "", -api.MaxNumber: "", api.MaxNumber + 1: "", api.MaxNumber + 2: "", 1 << 52: "", math.MaxInt: "", math.MinInt: "", math.MinInt + 1: "",
		1<<60 + 1: "", -1 << 48: "",
	} {
		named(t, first, want)
	}
}

// P13.1: each digit at each place, and random numbers.
func TestNameEach(t *testing.T) {
	for place := range 12 {
		for digit := range 16 {
			n := digit << (4 * place)
			named(t, n, slowName(n))
			named(t, n|1<<47|1, slowName(n|1<<47|1))
		}
	}
	r := chanceOf(1)
	for range 20000 {
		n := int(r.Int63()) >> r.Intn(63)
		named(t, n, slowName(n))
	}
}

// P13.1: texts that are no segment's name.
func TestNoName(t *testing.T) {
	bad := []string{
		"", "l", "log", "log-", "log-1", "log-0000000000ff ", " log-0000000000ff", "log-0000000000FF", "log-0000000000fF", "log-000000000000",
		"log-00000000001", "log-0000000000001", "log-ffffffffffff0", "log-1000000000000", "log-fffffffffff", "log-fffffffffffff",
		"Log-000000000001", "LOG-000000000001", "log_000000000001", "log 000000000001", "ckpt-000000000001", "kpt-000000000001", "000000000001", "xxxx000000000001",
		"log-+00000000001", "log--00000000001", "log-0x0000000001", "log-00000000000g", "log-00000000000`", "log-00000000000:", "log-00000000000/", "log-00000000000@",
		"log-0000_0000_01", "log-00000000000\x00", "log-\x00\x00\x00\x00\x00\x00\x00\x00\x00\x00\x00\x01", "log-0000000000é", "log-00000000001\n", "log-00000000001.", "log-.00000000001",
		"log-log-log-log-", "manifest", "manifest.new", strings.Repeat("0", 16), strings.Repeat("log-", 1<<16), long(1 << 20), "log-" + strings.Repeat("0", 1<<20),
	}
	for _, s := range bad {
		if n, ok := seglog.First(s); n != 0 || ok {
			t.Errorf("P13.1: First(%.40q): %d, %v", s, n, ok)
		}
	}
}

// P13.1: each byte at each place of a name.
func TestFirstEachByte(t *testing.T) {
	for _, whole := range []string{"log-0123456789ab", "log-ffffffffffff", "log-000000000001"} {
		for place := range len(whole) {
			for c := range 256 {
				row := []byte(whole)
				row[place] = byte(c)
				n, ok := seglog.First(string(row))
				want, is := slowFirst(string(row))
				if n != want || ok != is {
					t.Errorf("P13.1: First(%q): %d, %v, not %d, %v", row, n, ok, want, is)
				}
				if ok && seglog.Name(n) != string(row) {
					t.Errorf("P13.1: %q is the name of %d, and that one's is %q", row, n, seglog.Name(n))
				}
			}
		}
	}
}
