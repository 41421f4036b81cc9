package ascii

import (
	"fmt"
	"strings"
	"testing"
)

func TestEachByte(t *testing.T) {
	const digits, letters = "0123456789", "abcdefghijklmnopqrstuvwxyzABCDEFGHIJKLMNOPQRSTUVWXYZ"
	for i := range 256 {
		b := byte(i)
		if IsDigit(b) != (strings.IndexByte(digits, b) >= 0) || IsAlnum(b) != (strings.IndexByte(digits+letters, b) >= 0) {
			t.Errorf("%q is taken for what it is not: digit %v, digit or letter %v", b, IsDigit(b), IsAlnum(b))
		}
		if IsLower(b) != (strings.IndexByte(letters[:26], b) >= 0) {
			t.Errorf("%q: small letter %v", b, IsLower(b))
		}
		pair := HexPair(b)
		if pair != fmt.Sprintf("%02x", i) || HexValue(pair[0])<<4|HexValue(pair[1]) != b {
			t.Errorf("%d is written as %q", i, pair)
		}
		if IsHex(b) != (strings.IndexByte("0123456789abcdef", b) >= 0) {
			t.Errorf("%q: hex digit %v", b, IsHex(b))
		}
	}
}
