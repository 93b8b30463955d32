// Package name is layer 1: see shared/doc/01-name.md.
package name

import "placket/api"

// May tells whether a text may be a name: P1.1.
func May(s string) bool {
	if s == "" || len(s) > api.MaxName || !letter(s[0]) {
		return false
	}
	// By places, not by range: the document speaks of bytes, range gives runes.
	for i := 1; i < len(s); i++ {
		if !letter(s[i]) && !digit(s[i]) && s[i] != '-' {
			return false
		}
	}
	return true
}

// Text tells whether it may be a text: P1.1.
func Text(s string) bool {
	if len(s) > api.MaxText {
		return false
	}
	for i := 0; i < len(s); i++ {
		if s[i] < ' ' || s[i] > '~' {
			return false
		}
	}
	return true
}

// Void tells whether a tag is void: P1.1.
func Void(tag string) bool {
	switch tag {
	case "br", "hr", "img", "input":
		return true
	}
	return false
}

func letter(b byte) bool { return 'a' <= b && b <= 'z' }

func digit(b byte) bool { return '0' <= b && b <= '9' }
