package expr

import (
	"towncrier/api"
	"towncrier/le"
	"towncrier/value"
)

// reader takes part by part from the beginning of bytes; it is short as soon as one was not there, and all that it took is nothing then.
type reader struct {
	left  []byte
	short bool
}

// number takes a number that is at most most.
func (r *reader) number(most uint64) int {
	n, used, is := le.Get(r.left)
	if !is || n > most {
		r.short = true
		return 0
	}
	r.left = r.left[used:]
	return int(n)
}

// part takes a part of an expression, one that may be or not.
func (r *reader) part() api.Op {
	op := api.Op{Code: r.one()}
	switch op.Code {
	case api.Push:
		op.V = r.value()
	case api.Load:
		op.Arg = r.one()
	}
	return op
}

// one takes a byte.
func (r *reader) one() int {
	if len(r.left) == 0 {
		r.short = true
		return 0
	}
	b := r.left[0]
	r.left = r.left[1:]
	return int(b)
}

// value takes a value that may be.
func (r *reader) value() api.Value {
	v, used, is := value.Get(r.left)
	r.left = r.left[used:] // all stays, if there is none
	r.short = r.short || !is
	return v
}
