package lang

import (
	"errors"
	"strconv"

	"paddock/api"
)

// What can be wrong with a source.
var (
	errLong  = errors.New("the text is too long")
	errLang  = errors.New("it is written wrong")
	errKnown = errors.New("the name is there already, or is not")
	errSort  = errors.New("the thing is of another sort than must be")
	errBound = errors.New("the number is not within its bounds")
	errRoom  = errors.New("it is too much of something")
)

// wrong tells in which line it is wrong, and at which of the tokens.
type wrong struct {
	line, at int
	why      error
}

func (w *wrong) Error() string {
	return "line " + strconv.Itoa(w.line) + ": " + w.why.Error()
}

func (w *wrong) Unwrap() error {
	return w.why
}

// ahead tells whether it counts rather than another one: it is at an earlier token, or at the same one, and asked earlier.
func (w *wrong) ahead(other *wrong) bool {
	if w.at != other.at {
		return w.at < other.at
	}
	return rank(w) < rank(other)
}

// rank tells which of what can be wrong at one token is asked first.
func rank(err error) int {
	order := [...]error{errKnown, errSort, errBound, errRoom}
	for k, why := range order {
		if errors.Is(err, why) {
			return k
		}
	}
	return len(order)
}

func errnoOf(err error) api.Errno {
	switch {
	case errors.Is(err, errLong):
		return api.ErrLong
	case errors.Is(err, errKnown):
		return api.ErrKnown
	case errors.Is(err, errSort):
		return api.ErrSort
	case errors.Is(err, errBound):
		return api.ErrBound
	case errors.Is(err, errRoom):
		return api.ErrRoom
	}
	return api.ErrLang
}

// lineOf is 0 for what is wrong in no line.
func lineOf(err error) int {
	var w *wrong
	if errors.As(err, &w) {
		return w.line
	}
	return 0
}
