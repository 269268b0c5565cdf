package schema

import (
	"towncrier/api"
	"towncrier/le"
)

const kindBytes = 1

// reader takes part by part from the beginning of bytes; it is short as soon as one was not there, and all that it took is nothing then.
type reader struct {
	left  []byte
	short bool
}

// number takes a number that is at most most.
func (r *reader) number(most uint64) int {
	n, used, is := le.Get(r.left)
	if !is || n > most {
		r.short = true
		return 0
	}
	r.left = r.left[used:]
	return int(n)
}

// name takes how many bytes a name has, and these, a name or not.
func (r *reader) name() string {
	return string(r.take(r.number(api.MaxName)))
}

// kind takes a byte, a kind or not.
func (r *reader) kind() int {
	b := r.take(kindBytes)
	if r.short {
		return 0
	}
	return int(b[0])
}

// take takes so many bytes, or none, if there are fewer.
func (r *reader) take(n int) []byte {
	if n > len(r.left) {
		r.short = true
		return nil
	}
	taken := r.left[:n]
	r.left = r.left[n:]
	return taken
}
