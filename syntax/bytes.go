package syntax

import "strings"

const hexDigits = "0123456789abcdef"

func isDigit(b byte) bool { return '0' <= b && b <= '9' }

func isAlnum(b byte) bool {
	return isDigit(b) || 'a' <= b && b <= 'z' || 'A' <= b && b <= 'Z'
}

func isHex(b byte) bool { return strings.IndexByte(hexDigits, b) >= 0 }

func hexValue(b byte) byte { return byte(strings.IndexByte(hexDigits, b)) }
