package shell

import (
	"paddock/asm"
	"paddock/image"
	"paddock/lang"
)

// command is what a first token stands for: the form of what stands behind it, and what is done.
type command struct {
	form string
	do   func(s *shell, g given)
}

// commands are all commands, by their first tokens.
func commands() map[string]command {
	return map[string]command{
		"program": {"N", laying(asm.Parse, "line")},
		"source":  {"N", laying(lang.Compile, "line")},
		"load":    {"N D", laying(image.Decode, "at")},
		"name":    {"A G W", (*shell).name},
		"need":    {"A G W", (*shell).need},
		"link":    {"N = A A*", (*shell).link},
		"trim":    {"N = A", (*shell).trim},
		"print":   {"A", (*shell).print},
		"bytes":   {"A", (*shell).bytes},
		"check":   {"A", (*shell).check},
		"cost":    {"A G", (*shell).cost},
		"grant":   {"A G", (*shell).grant},
		"cert":    {"A", (*shell).cert},
		"run":     {"A G V* : I* fuel F", running(onBareAddresses)},
		"slow":    {"A G V* : I* fuel F", running(lookingAtEveryStep)},
		"back":    {"A G V* : I* fuel F at K", (*shell).back},
	}
}
