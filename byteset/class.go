package byteset

import "strings"

var classNames = [...]string{"digit", "lower", "upper", "alpha", "alnum", "space", "punct"}

// IsClass tells whether a class has this name.
func IsClass(name string) bool {
	for _, known := range classNames {
		if name == known {
			return true
		}
	}
	return false
}

// BeginsClass tells whether the name of some class begins so.
func BeginsClass(beginning string) bool {
	for _, known := range classNames {
		if strings.HasPrefix(known, beginning) {
			return true
		}
	}
	return false
}

// AddClass adds the bytes of a class. A class that holds another one falls through to it.
func (s *Set) AddClass(name string) {
	switch name {
	case "alnum":
		s.AddRange('0', '9')
		fallthrough
	case "alpha":
		s.AddRange('A', 'Z')
		fallthrough
	case "lower":
		s.AddRange('a', 'z')
	case "upper":
		s.AddRange('A', 'Z')
	case "digit":
		s.AddRange('0', '9')
	case "space":
		s.AddRange(9, 13)
		s.AddRange(32, 32)
	case "punct":
		s.AddRange(33, 47)
		s.AddRange(58, 64)
		s.AddRange(91, 96)
		s.AddRange(123, 126)
	}
}
