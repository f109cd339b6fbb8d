package numbered_test

import (
	"fmt"
	"math"
	"strings"
	"testing"

	"treadle/api"
	"treadle/numbered"
)

func beginnings() []string {
	return []string{"log-", "ckpt-", "", "0", "f", "-", "\x00\xff", strings.Repeat("0123456789ab", 9)}
}

// P13.1, P16.1: the digits of each number, and the number of each row of digits, behind any beginning.
func TestThereAndBack(t *testing.T) {
	numbers := []int{1, 2, 9, 10, 15, 16, 255, 256, 0x123456789abc, 0xdef012345678, api.MaxNumber - 1, api.MaxNumber}
	for place := range 48 {
		numbers = append(numbers, 1<<place, 1<<place|1<<47)
	}
	for _, beginning := range beginnings() {
		for _, n := range numbers {
			name := numbered.Name(beginning, n)
			if name != beginning+fmt.Sprintf("%012x", n) {
				t.Errorf("Name(%q, %d): %q", beginning, n, name)
			}
			if got, is := numbered.Number(beginning, name); got != n || !is {
				t.Errorf("Number(%q, %q): %d, %v", beginning, name, got, is)
			}
		}
	}
}

// P13.1, P16.1: numbers that no file has, and texts that are no file's name.
func TestNone(t *testing.T) {
	for _, beginning := range beginnings() {
		for _, n := range []int{0, -1, -api.MaxNumber, api.MaxNumber + 1, 1<<60 + 1, -1 << 48, math.MaxInt, math.MinInt} {
			if name := numbered.Name(beginning, n); name != "" {
				t.Errorf("Name(%q, %d): %q", beginning, n, name)
			}
		}
		for _, rest := range []string{"", "1", "00000000001", "000000000000", "0000000000001", "00000000000A", "00000000000g", "0x0000000001", "+00000000001", " 00000000001"} {
			if n, is := numbered.Number(beginning, beginning+rest); n != 0 || is {
				t.Errorf("Number(%q, %q): %d, %v", beginning, beginning+rest, n, is)
			}
		}
	}
	for _, x := range [][2]string{{"log-", "ckpt-000000000001"}, {"ckpt-", "log-000000000001"}, {"log-", "Log-000000000001"}, {"log-", "xxxx000000000001"}, {"log-", "000000000001"}, {"ckpt-", ""}} {
		if n, is := numbered.Number(x[0], x[1]); n != 0 || is {
			t.Errorf("Number(%q, %q): %d, %v", x[0], x[1], n, is)
		}
	}
}
