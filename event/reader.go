package event

import (
	"towncrier/api"
	"towncrier/le"
	"towncrier/value"
)

// reader takes part by part from the beginning of bytes; it is short as soon as one was not there, and all that it took is nothing then.
type reader struct {
	left  []byte
	short bool
}

// number takes a number that is at most most.
func (r *reader) number(most uint64) int {
	n, used, is := le.Get(r.left)
	if !is || n > most {
		r.short = true
		return 0
	}
	r.left = r.left[used:]
	return int(n)
}

// name takes how many bytes a name has, and these, a name or not.
func (r *reader) name() string {
	n := r.number(api.MaxName)
	if n > len(r.left) {
		r.short = true
		return ""
	}
	name := string(r.left[:n])
	r.left = r.left[n:]
	return name
}

// value takes a value that may be.
func (r *reader) value() api.Value {
	v, used, is := value.Get(r.left)
	r.left = r.left[used:] // all stays, if there is none
	r.short = r.short || !is
	return v
}
