// Package ascii tells digits and letters from other bytes. A byte from 128 on is neither, whatever text it is part of.
package ascii

import "strings"

const hexDigits = "0123456789abcdef"

// IsDigit tells whether a byte is one of 0 to 9.
func IsDigit(b byte) bool { return '0' <= b && b <= '9' }

// IsLower tells whether a byte is one of a to z.
func IsLower(b byte) bool { return 'a' <= b && b <= 'z' }

// IsAlnum tells whether a byte is a digit or a letter.
func IsAlnum(b byte) bool {
	return IsDigit(b) || IsLower(b) || 'A' <= b && b <= 'Z'
}

// IsHex tells whether a byte is a hex digit. The great letters are none.
func IsHex(b byte) bool { return strings.IndexByte(hexDigits, b) >= 0 }

// HexValue tells what a hex digit stands for.
func HexValue(b byte) byte { return byte(strings.IndexByte(hexDigits, b)) }

// HexPair writes a byte as two hex digits.
func HexPair(b byte) string { return string([]byte{hexDigits[b>>4], hexDigits[b&15]}) }
