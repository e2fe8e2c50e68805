package link

import (
	"slices"
	"strings"

	"paddock/api"
)

// maxName is how many bytes a name may have.
const maxName = 16

func namesRight(m api.Module) bool {
	if len(m.Names) != len(m.Image.Gates) {
		return false
	}
	for k, name := range m.Names {
		if name != "" && (!mayBe(name) || slices.Contains(m.Names[:k], name)) {
			return false
		}
	}
	return true
}

// needsRight is asked where there are as many names as gates.
func needsRight(m api.Module) bool {
	last := -1
	for _, n := range m.Needs {
		if n.Gate <= last || n.Gate >= len(m.Names) || !mayBe(n.Name) || m.Names[n.Gate] != "" {
			return false
		}
		last = n.Gate
	}
	return true
}

func mayBe(name string) bool {
	return 1 <= len(name) && len(name) <= maxName && !strings.ContainsFunc(name, isNoSign)
}

func isNoSign(r rune) bool {
	isSign := 'a' <= r && r <= 'z' || 'A' <= r && r <= 'Z' || '0' <= r && r <= '9' || r == '_'
	return !isSign
}
