package ckpt_test

import (
	"math"
	"math/rand"
	"strings"
	"testing"

	"treadle/ckpt"
)

// isNamed asks Name, and Number of what it says.
func isNamed(t *testing.T, number int, want string) {
	t.Helper()
	if got := ckpt.Name(number); got != want || got != slowName(number) {
		t.Errorf("P16.1: Name(%d): %q, not %q", number, got, want)
	}
	if want == "" {
		return
	}
	if n, is := ckpt.Number(want); n != number || !is {
		t.Errorf("P16.1: Number(%q): %d, %v, not %d, true", want, n, is, number)
	}
}

// P16.1: numbers and their names; numbers that have none.
func TestNameKnown(t *testing.T) {
	for number, want := range map[int]string{
		1: "ckpt-000000000001", 9: "ckpt-000000000009", 10: "ckpt-00000000000a", 15: "ckpt-00000000000f", 16: "ckpt-000000000010",
		256: "ckpt-000000000100", 0x123456789abc: "ckpt-123456789abc", 0xdef012345678: "ckpt-def012345678",
		most - 1: "ckpt-fffffffffffe", most: "ckpt-ffffffffffff",
		0: "", -1: "", -most: "", most + 1: "", most + 2: "", 1 << 52: "", 1<<60 + 1: "", -1 << 48: "", math.MaxInt: "", math.MinInt: "", math.MinInt + 1: "",
	} {
		isNamed(t, number, want)
	}
}

// P16.1: each digit at each place, and random numbers.
func TestNameEach(t *testing.T) {
	for place := range 12 {
		for digit := range 16 {
			n := digit << (4 * place)
			isNamed(t, n, slowName(n))
			isNamed(t, n|1<<47|1, slowName(n|1<<47|1))
		}
	}
	r := rand.New(rand.NewSource(1))
	for range 20000 {
		n := int(r.Int63()) >> r.Intn(63)
		isNamed(t, n, slowName(n))
	}
}

// P16.1: texts that are no checkpoint's name.
func TestNoName(t *testing.T) {
	for _, s := range []string{
		"", "c", "ckpt", "ckpt-", "ckpt-1", "ckpt-0000000000ff ", " ckpt-0000000000ff", "ckpt-0000000000FF", "ckpt-00000000000A", "ckpt-0000000000fF", "ckpt-000000000000",
		"ckpt-00000000001", "ckpt-0000000000001", "ckpt-1000000000000", "ckpt-fffffffffff", "ckpt-fffffffffffff", "ckpt-0ffffffffffff",
		"Ckpt-000000000001", "CKPT-000000000001", "ckpt_000000000001", "ckpt 000000000001", "log-000000000001", "log-0000000000001", "kpt-000000000001", "kpt-0000000000001",
		"000000000001", "xxxxx000000000001", "ckpt000000000001", "ckpt0000000000001", "ckpt--00000000001", "ckpt-+00000000001", "ckpt-0x0000000001", "ckpt-00000000000g", "ckpt-00000000000`",
		"ckpt-00000000000:", "ckpt-00000000000/", "ckpt-00000000000@", "ckpt-0000_0000_01", "ckpt-00000000000\x00", "ckpt-0000000000é", "ckpt-00000000001\n", "ckpt-.00000000001",
		"manifest", "manifest.new", "ckpt-ckpt-ckpt-ck", strings.Repeat("0", 17), strings.Repeat("ckpt-", 1<<16), "ckpt-" + strings.Repeat("0", 1<<20),
	} {
		if n, is := ckpt.Number(s); n != 0 || is {
			t.Errorf("P16.1: Number(%.40q): %d, %v", s, n, is)
		}
	}
}

// P16.1: each byte at each place of a name.
func TestNumberEachByte(t *testing.T) {
	for _, whole := range []string{"ckpt-0123456789ab", "ckpt-ffffffffffff", "ckpt-000000000001"} {
		for place := range len(whole) {
			for c := range 256 {
				row := []byte(whole)
				row[place] = byte(c)
				n, is := ckpt.Number(string(row))
				want, wis := slowNumber(string(row))
				if n != want || is != wis {
					t.Errorf("P16.1: Number(%q): %d, %v, not %d, %v", row, n, is, want, wis)
				}
				if is && ckpt.Name(n) != string(row) {
					t.Errorf("P16.1: %q is the name of %d, and that one's is %q", row, n, ckpt.Name(n))
				}
			}
		}
	}
}
